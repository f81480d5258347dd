"""Names, the weight of sides, and the least that reaches a goal.

An oath is a pair (name, weight), a side a list of oaths, an offer a pair (cost, gain).
"""

LONGEST_NAME = 12


def is_name(text):
    # Held against the letters themselves: isalpha and islower take letters of other scripts, too.
    return 1 <= len(text) <= LONGEST_NAME and all(["a" <= sign <= "z" for sign in text])


def total(side):
    return sum([weight for name, weight in side])


def heaviest(side, many):
    weights = sorted([weight for name, weight in side], reverse=True)
    # A slice to a number below nought would count from the end.
    return sum(weights[:max(many, 0)])


def fewest_to(side, goal):
    names = []
    lack = goal
    # No other oaths, as many, weigh more than the heaviest ones: so none reach the goal sooner.
    for name, weight in sorted(side, key=lambda oath: oath[1], reverse=True):
        if lack < 1:
            return names
        names.append(name)
        lack -= weight
    return names if lack < 1 else None


def cheapest(offers, goal):
    if goal < 1:
        return []
    hope = sum([gain for cost, gain in offers])
    if hope < goal:
        return None
    # A choice is a triple (cost, lack, places), the lack being what it still wants to the goal.
    choices = [(0, goal, ())]
    for place, offer in enumerate(offers):
        hope -= offer[1]
        choices = worthwhile(choices + with_offer(choices, place, offer), hope)
    return list(choices[0][2])


def with_offer(choices, place, offer):
    # What goes beyond the goal is worth nothing, so that a lack stops at nought.
    return [(cost + offer[0], max(lack - offer[1], 0), places + (place,)) for cost, lack, places in choices]


def worthwhile(choices, hope):
    # A choice that costs no less than another and lacks no less never gets better than it, and one
    # that lacks more than all further offers gain is lost. What stays has unlike costs and unlike
    # lacks, so it is never more than the costs or the gains summed up, however many lists there are.
    kept = []
    for choice in sorted(choices):
        if choice[1] <= hope and (not kept or choice[1] < kept[-1][1]):
            kept.append(choice)
    return kept
