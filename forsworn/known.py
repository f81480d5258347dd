"""What is known otherwise now than it was at an earlier moment."""

from forsworn.measures import check_day


def turned(moot, moment):
    now_standing = moot.standing()
    return [case for case, stood in enumerate(moot.then(moment).standing()) if stood != now_standing[case]]


def moved(moot, day, moment):
    # Ahead of the moment, as the refusals go, and also where there was no thing yet to ask for.
    check_day(day)
    earlier = moot.then(moment)
    return [thing for thing in range(earlier.things()) if earlier.holder(thing, day) != moot.holder(thing, day)]
