"""Deeds as they are written, and moots as the lines of their deeds."""

from forsworn.deeds import done
from forsworn.errors import NoDeed
from forsworn.moot import Moot
from forsworn.oaths import is_name

MOST_FIGURES = 9

# By word the kinds of what is written behind it, of a case what is written ahead of its sides.
PLAIN = {
    "come": ("name", "number", "number"),
    "rise": ("name", "number", "number"),
    "die": ("name", "number", "name"),
    "penance": ("name",),
    "bring": ("name", "number"),
    "give": ("number", "name", "name", "number"),
    "pay": ("name", "name", "number", "number"),
}
SWORN = {
    "claim": ("name", "number", "number", "number"),
    "wergild": ("name", "name", "number", "number", "number"),
    "accuse": ("number", "name", "number", "number"),
}


def shown_deed(deed):
    if deed[0] in SWORN:
        return " ".join([str(part) for part in deed[:-2]] + ["+"] + deed[-2] + ["-"] + deed[-1])
    return " ".join([str(part) for part in deed])


def read_deed(text):
    # A blank too many leaves an empty word here, which is neither a name nor a number.
    words = text.split(" ")
    word = words[0]
    if word in PLAIN:
        return tuple([word] + read_values(words[1:], PLAIN[word]))
    if word in SWORN:
        plus = place_of("+", words)
        minus = place_of("-", words)
        # Where the two are turned about, the minus lies among the values and is none.
        values = read_values(words[1:plus], SWORN[word])
        return tuple([word] + values + [read_names(words[plus + 1:minus]), read_names(words[minus + 1:])])
    raise NoDeed(f"no deed begins with {word!r}")


def lines(moot):
    return [shown_deed(deed) for deed in moot.roll()]


def relived(lines):
    moot = Moot()
    for line in lines:
        done(moot, read_deed(line))
    return moot


def place_of(sign, words):
    if sign not in words:
        raise NoDeed(f"there is no {sign} ahead of the names")
    return words.index(sign)


def read_names(words):
    return [read_value(word, "name") for word in words]


def read_values(words, kinds):
    if len(words) != len(kinds):
        raise NoDeed("there are too many words, or too few")
    return [read_value(word, kind) for word, kind in zip(words, kinds)]


def read_value(word, kind):
    if kind == "name" and is_name(word):
        return word
    if kind == "number" and is_number(word):
        return int(word)
    raise NoDeed(f"{word!r} is no {kind}")


def is_number(word):
    # Held against the figures themselves: isdigit takes figures of other scripts, too.
    if not 1 <= len(word) <= MOST_FIGURES or not all(["0" <= sign <= "9" for sign in word]):
        return False
    return word == "0" or word[0] != "0"
