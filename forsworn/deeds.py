"""Deeds as tuples: the word and its arguments as the moot's methods take them."""

from forsworn.errors import NoDeed


def done(moot, deed):
    word = deed[0]
    if word == "come":
        return moot.come(deed[1], deed[2], deed[3])
    if word == "rise":
        return moot.rise(deed[1], deed[2], deed[3])
    if word == "die":
        return moot.die(deed[1], deed[2], deed[3])
    if word == "penance":
        return moot.penance(deed[1])
    if word == "bring":
        return moot.bring(deed[1], deed[2])
    if word == "give":
        return moot.give(deed[1], deed[2], deed[3], deed[4])
    if word == "pay":
        return moot.pay(deed[1], deed[2], deed[3], deed[4])
    if word == "claim":
        return moot.claim(deed[1], deed[2], deed[3], deed[4], deed[5], deed[6])
    if word == "wergild":
        return moot.wergild(deed[1], deed[2], deed[3], deed[4], deed[5], deed[6], deed[7])
    if word == "accuse":
        return moot.accuse(deed[1], deed[2], deed[3], deed[4], deed[5], deed[6])
    raise NoDeed(f"{word} is the word of no deed")


def copied(deed):
    return tuple([list(part) if isinstance(part, list) else part for part in deed])
