"""Which cases stand and which fall, which oaths are broken, and which case bears on which.

A suit is a tuple (ones, others, need, named); a case is the place of its suit in the list of suits.
"""

from forsworn.errors import NoCase, NoOath

ONES = 0
OTHERS = 1
NEED = 2
NAMED = 3


def settled(suits):
    return settled_with(suits, [])


def settled_with(suits, more):
    gone = {}
    for oath in more:
        gone[oath] = True
    standing = [False] * len(suits)
    # Only later cases name an oath: from the last one on, all that breaks a case's oaths is known.
    for case in range(len(suits) - 1, -1, -1):
        standing[case] = margin_without(suits, case, gone) >= 0
        if standing[case] and suits[case][NAMED] is not None:
            gone[suits[case][NAMED]] = True
    return standing


def margin(suits, case):
    check_case(suits, case)
    return margin_without(suits, case, broken(suits))


def broken(suits):
    return sorted(breaking(suits))


def breakers(suits, case, name):
    check_oath(suits, case, name)
    return breaking(suits).get((case, name), [])


def chain(suits, case):
    check_case(suits, case)
    cases = []
    named = suits[case][NAMED]
    while named is not None:
        cases.append(named[0])
        named = suits[named[0]][NAMED]
    return cases


def bearing(suits, case):
    check_case(suits, case)
    return [later for later in range(case + 1, len(suits)) if case in chain(suits, later)]


def namers(suits):
    return naming(suits, list(range(len(suits))))


def breaking(suits):
    return naming(suits, [case for case, stands in enumerate(settled(suits)) if stands])


def naming(suits, cases):
    # By oath the list of those of the cases that name it; an oath that none of them names is no key.
    named_by = {}
    for case in cases:
        oath = suits[case][NAMED]
        if oath is not None:
            named_by.setdefault(oath, []).append(case)
    return named_by


def check_case(suits, case):
    # A number below nought would else be taken as a place from the end.
    if not 0 <= case < len(suits):
        raise NoCase(f"there is no case {case}")


def check_oath(suits, case, name):
    check_case(suits, case)
    if name not in [swearer for swearer, weight in suits[case][ONES] + suits[case][OTHERS]]:
        raise NoOath(f"{name} does not swear in case {case}")


def margin_without(suits, case, gone):
    suit = suits[case]
    return kept_weight(case, suit[ONES], gone) - kept_weight(case, suit[OTHERS], gone) - suit[NEED]


def kept_weight(case, side, gone):
    return sum([weight for name, weight in side if (case, name) not in gone])
