"""The fewest oaths that turn a case when they are broken by hand."""

from forsworn.oaths import cheapest
from forsworn.stands import ONES, OTHERS, bearing, breaking, check_case, margin_without, settled


def fewest(suits, case):
    check_case(suits, case)
    standing = settled(suits)
    broken_by = breaking(suits)
    turnings = {}
    # A case is turned through standing ones that bear on it: all later ones, so the last comes first.
    for later in reversed(bearing(suits, case)):
        if standing[later]:
            turnings[later] = turning(suits, later, broken_by, turnings)
    return turning(suits, case, broken_by, turnings)


def turning(suits, case, broken_by, turnings):
    # A way is a pair (oaths, weight): what to break by hand, and what the case is moved by it.
    suit = suits[case]
    lead = margin_without(suits, case, broken_by)
    if lead >= 0:
        ways = breakings(case, suit[ONES], broken_by) + keepings(case, suit[OTHERS], broken_by, turnings)
        goal = lead + 1
    else:
        ways = breakings(case, suit[OTHERS], broken_by) + keepings(case, suit[ONES], broken_by, turnings)
        goal = -lead
    # No case names two oaths, so that no two ways share an oath and their lengths may be summed up.
    places = cheapest([(len(oaths), weight) for oaths, weight in ways], goal)
    if places is None:
        return None
    return sorted(joined([ways[place][0] for place in places]))


def breakings(case, side, broken_by):
    return [([(case, name)], weight) for name, weight in side if (case, name) not in broken_by]


def keepings(case, side, broken_by, turnings):
    ways = []
    for name, weight in side:
        rows = [turnings[later] for later in broken_by.get((case, name), [])]
        # A need of nought or less may let a case stand that nothing turns: its oath stays broken.
        if rows and None not in rows:
            ways.append((joined(rows), weight))
    return ways


def joined(rows):
    oaths = []
    for row in rows:
        oaths.extend(row)
    return oaths
