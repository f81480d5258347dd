"""Papers that show that a case stands, or that it falls.

An entry of a paper is a tuple (case, stands, names).
"""

from forsworn.oaths import fewest_to, total
from forsworn.stands import NEED, ONES, OTHERS, breaking, check_case, namers, settled

CASE = 0
STANDS = 1
NAMES = 2


def paper(suits, case):
    check_case(suits, case)
    standing = settled(suits)
    named_by = namers(suits)
    broken_by = breaking(suits)
    asked = {case: True}
    entries = []
    # Claims ask for later cases only: a walk by rising number meets each behind all that ask for it.
    for number in range(case, len(suits)):
        if number in asked:
            entry = (number, standing[number], fewest_names(suits, number, standing[number], broken_by))
            entries.append(entry)
            for later in asked_by(suits, entry, named_by, broken_by):
                asked[later] = True
    return entries


def good_paper(suits, case, stands, entries):
    truths = {}
    for entry in entries:
        if entry[CASE] in truths or not is_sound(suits, entry):
            return False
        truths[entry[CASE]] = entry[STANDS]
    named_by = namers(suits)
    return truths.get(case) == stands and all([is_backed(suits, entry, truths, named_by) for entry in entries])


def fewest_names(suits, case, stands, broken_by):
    suit = suits[case]
    true_ones = [oath for oath in suit[ONES] if ((case, oath[0]) in broken_by) != stands]
    true_others = [oath for oath in suit[OTHERS] if ((case, oath[0]) in broken_by) == stands]
    return fewest_to(true_ones + true_others, enough(suit, stands))


def enough(suit, stands):
    if stands:
        return suit[NEED] + total(suit[OTHERS])
    # A case falls below nought, so that the sum must be one more than the ones can spare.
    return total(suit[ONES]) - suit[NEED] + 1


def claims_broken(suit, stands, name):
    return (name in [one for one, weight in suit[ONES]]) != stands


def asked_by(suits, entry, named_by, broken_by):
    cases = []
    for name in entry[NAMES]:
        oath = (entry[CASE], name)
        if claims_broken(suits[entry[CASE]], entry[STANDS], name):
            # One case that stands shows it; a second one would be an entry that no claim asks for.
            cases.append(broken_by[oath][0])
        else:
            cases.extend(named_by.get(oath, []))
    return cases


def is_sound(suits, entry):
    # A number below nought would else be taken as a place from the end.
    if not 0 <= entry[CASE] < len(suits):
        return False
    suit = suits[entry[CASE]]
    claimed = [oath for oath in suit[ONES] + suit[OTHERS] if oath[0] in entry[NAMES]]
    # An oath is met here once: a name that stands there twice, or does not swear, leaves the names in excess.
    return len(claimed) == len(entry[NAMES]) and total(claimed) >= enough(suit, entry[STANDS])


def is_backed(suits, entry, truths, named_by):
    for name in entry[NAMES]:
        told = [truths.get(later) for later in named_by.get((entry[CASE], name), [])]
        if claims_broken(suits[entry[CASE]], entry[STANDS], name):
            if True not in told:
                return False
        elif told.count(False) < len(told):
            return False
    return True
