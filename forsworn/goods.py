"""Things: by which steps one came to its holder.

A thing's brought is a pair (name, day). An event and a step of a road are tuples (day, word, giver, taker).
"""

DAY = 0
WORD = 1
GIVER = 2
TAKER = 3


def road(brought, events, folk, day):
    first_day = brought[1]
    if day < first_day:
        return []
    steps = [(first_day, "brought", None, brought[0])]
    for event in by_day([event for event in events if event[DAY] <= day]):
        leave_on(steps, folk, event[DAY])
        pass_on(steps, event)
    leave_on(steps, folk, day)
    return steps


def holder(brought, events, folk, day):
    steps = road(brought, events, folk, day)
    return steps[-1][TAKER] if steps else None


def by_day(events):
    # Sorting by the day alone leaves the events of one day in the order in which they were told.
    return sorted(events, key=lambda event: event[DAY])


def leave_on(steps, folk, day):
    while folk.died_by(steps[-1][TAKER], day):
        dead_one = steps[-1][TAKER]
        left_day = max(folk.death_day(dead_one), steps[-1][DAY])
        steps.append((left_day, "left", dead_one, folk.heir_of(dead_one)))


def pass_on(steps, event):
    # The thing has been left on ahead of the event: its last taker is the one who stands for the holder.
    keeper = steps[-1][TAKER]
    if event[WORD] == "won" or event[GIVER] == keeper:
        steps.append((event[DAY], event[WORD], keeper, event[TAKER]))
