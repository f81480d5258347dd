"""A past: a moot whose deeds can be taken back and done again."""

from forsworn.deeds import done
from forsworn.errors import NothingBack, NothingForth
from forsworn.moot import Moot


class Past:
    def __init__(self):
        self.moot = Moot()
        # What was taken back, the last one at the end.
        self.undone = []

    def does(self, deed):
        told = done(self.moot, deed)
        self.undone = []
        return told

    def undo(self):
        moment = self.moot.now()
        if moment == 0:
            raise NothingBack("no deed is done that could be taken back")
        self.undone.append(self.moot.roll()[-1])
        self.moot = self.moot.then(moment - 1)

    def redo(self):
        if not self.undone:
            raise NothingForth("no deed is taken back that could be done again")
        done(self.moot, self.undone[-1])
        self.undone.pop()

    def waiting(self):
        return len(self.undone)
