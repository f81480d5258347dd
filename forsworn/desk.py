"""A desk: it is told lines, deeds and questions alike, and tells what comes of them."""

from forsworn.errors import MootError
from forsworn.notes import read_deed, read_values
from forsworn.past import Past

# By word the kinds of what is written behind it.
ASKED = {
    "undo": (),
    "redo": (),
    "moment": (),
    "stands": ("number",),
    "who": ("number", "number"),
    "forsworn": ("name",),
    "balance": ("name", "number"),
}


class Desk:
    def __init__(self):
        self.past = Past()

    def say(self, line):
        try:
            told = self.carry_out(line)
        except MootError as refusal:
            return (False, refusal.called())
        return (True, told)

    def carry_out(self, line):
        words = line.split(" ")
        if words[0] in ASKED:
            return self.reply(words[0], read_values(words[1:], ASKED[words[0]]))
        return self.past.does(read_deed(line))

    def reply(self, word, values):
        if word == "undo":
            return self.past.undo()
        if word == "redo":
            return self.past.redo()
        if word == "stands":
            return self.past.moot.stands(values[0])
        if word == "who":
            return self.past.moot.holder(values[0], values[1])
        if word == "forsworn":
            return self.past.moot.forsworn(values[0])
        if word == "balance":
            return self.past.moot.balance(values[0], values[1])
        return self.past.moot.now()
