"""Money: who owes whom how much on a day.

An entry is a tuple (day, debtor, creditor, many).
"""


def owed(entries, folk, day):
    sums = {}
    for since, debtor, creditor, many in entries:
        if since <= day:
            set_against(sums, folk.stand_in(debtor, day), folk.stand_in(creditor, day), many)
    return sorted([triple(pair, many) for pair, many in sums.items() if many != 0])


def balance(entries, folk, day, name):
    told = 0
    for debtor, creditor, many in owed(entries, folk, day):
        if creditor == name:
            told += many
        if debtor == name:
            told -= many
    return told


def set_against(sums, debtor, creditor, many):
    # Two people share one sum, so that what the one owes meets what the other owes: it lies under
    # their names as they sort, and is below nought where the second one owes more.
    if debtor < creditor:
        sums[(debtor, creditor)] = sums.get((debtor, creditor), 0) + many
    elif creditor < debtor:
        sums[(creditor, debtor)] = sums.get((creditor, debtor), 0) - many


def triple(pair, many):
    if many > 0:
        return (pair[0], pair[1], many)
    return (pair[1], pair[0], -many)
