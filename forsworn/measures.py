"""The measures that deeds and questions are held to."""

from forsworn.errors import NoMeasure

LAST_DAY = 9999
MOST_WEIGHT = 1000


def check_day(day):
    if not 0 <= day <= LAST_DAY:
        raise NoMeasure(f"{day} is no day")


def check_weight(weight):
    if not 1 <= weight <= MOST_WEIGHT:
        raise NoMeasure(f"{weight} is no weight")
