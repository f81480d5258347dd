"""The measures that deeds and questions are held to."""

from forsworn.errors import NoMeasure

LAST_DAY = 9999
MOST_WEIGHT = 1000
MOST_NEED = 12000
MOST_MONEY = 1000000


def check_day(day):
    if not 0 <= day <= LAST_DAY:
        raise NoMeasure(f"{day} is no day")


def check_weight(weight):
    if not 1 <= weight <= MOST_WEIGHT:
        raise NoMeasure(f"{weight} is no weight")


def check_need(need):
    if not 1 <= need <= MOST_NEED:
        raise NoMeasure(f"{need} is no need")


def check_money(many):
    if not 1 <= many <= MOST_MONEY:
        raise NoMeasure(f"{many} is no sum of money")
