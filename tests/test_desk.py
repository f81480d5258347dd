"""forsworn.desk: [23], and of [1] and [17] what touches it."""

import random
import re
import unittest

from forsworn import errors
from forsworn.desk import Desk
from forsworn.errors import MootError
from forsworn.notes import lines, read_deed, shown_deed
from forsworn.past import Past
from tests.helper import FORTY, REFUSALS, all_told, made_deed, made_moot, moot_of

DAYS = (0, 4, 9, 14, 20)
NUMBER = "(0|[1-9][0-9]{0,8})"
NAME = "([a-z]{1,12})"
ASKED = {
    f"stands {NUMBER}": "stands", f"who {NUMBER} {NUMBER}": "holder", f"forsworn {NAME}": "forsworn",
    f"balance {NAME} {NUMBER}": "balance", "moment": "now", "undo": "undo", "redo": "redo",
}


def said_by_hand(past, line):
    """What a desk with this past tells, by the words of [23]; the past takes the line's step."""
    try:
        for pattern, method in ASKED.items():
            found = re.fullmatch(pattern, line)
            if found:
                values = [int(part) if part.isdigit() else part for part in found.groups()]
                return (True, getattr(past if method in ("undo", "redo") else past.moot, method)(*values))
        return (True, past.does(read_deed(line)))
    except MootError as refusal:
        return (False, type(refusal).__name__)


def desk_of(written):
    desk = Desk()
    for line in written:
        assert desk.say(line)[0], line
    return desk


SOME = [
    "come ann 0 10", "come bob 0 7", "come cid 2 5", "bring ann 1", "claim bob 0 3 6 + bob -",
    "wergild ann cid 30 4 3 + ann - cid", "accuse 0 bob 5 4 + cid -",
]


class Says(unittest.TestCase):
    def assert_says(self, desk, line, told):
        said = desk.say(line)
        self.assertEqual(said, told, line)
        self.assertIs(type(said), tuple)
        self.assertIs(type(said[0]), bool)
        self.assertIs(type(said[1]), type(told[1]))

    def test_a_new_desk(self):
        desk = Desk()
        self.assertIsInstance(desk.past, Past)
        self.assert_says(desk, "moment", (True, 0))
        self.assert_says(desk, "undo", (False, "NothingBack"))
        self.assert_says(desk, "redo", (False, "NothingForth"))
        self.assert_says(desk, "stands 0", (False, "NoCase"))
        self.assert_says(desk, "who 0 0", (False, "NoThing"))
        self.assert_says(desk, "forsworn ann", (False, "Unknown"))
        self.assert_says(desk, "balance ann 0", (False, "Unknown"))
        self.assert_says(desk, "moment", (True, 0))

    def test_each_deed(self):
        desk = Desk()
        for place, (line, told) in enumerate((
            ("come ann 0 10", None), ("come bob 0 7", None), ("come cid 2 5", None), ("rise ann 3 12", None),
            ("bring ann 1", 0), ("bring bob 1", 1), ("give 0 ann bob 4", None), ("pay ann bob 7 5", None),
            ("claim bob 0 3 6 + bob -", 0), ("wergild ann cid 30 4 3 + ann - cid", 1), ("accuse 0 bob 5 4 + cid -", 2),
            ("penance bob", None), ("die cid 9 ann", None),
        )):
            self.assert_says(desk, line, (True, told))
            self.assert_says(desk, "moment", (True, place + 1))
            self.assertEqual(lines(desk.past.moot)[-1], line)

    def test_questions(self):
        desk = desk_of(SOME)
        for line, told in (
            ("stands 0", False), ("stands 1", True), ("stands 2", True), ("who 0 0", None), ("who 0 1", "ann"),
            ("who 0 9999", "ann"), ("forsworn bob", True), ("forsworn ann", False), ("balance ann 4", 30),
            ("balance cid 4", -30), ("balance bob 4", 0), ("balance ann 3", 0), ("moment", 7),
        ):
            self.assert_says(desk, line, (True, told))
        desk.say("undo")
        for line, told in (("stands 0", True), ("who 0 2", "ann"), ("who 0 3", "bob"), ("forsworn bob", False)):
            self.assert_says(desk, line, (True, told))
        self.assert_says(desk, "stands 2", (False, "NoCase"))

    def test_names_and_numbers_that_are_not_there(self):
        desk = desk_of(SOME)
        for line, refusal in (
            ("stands 3", "NoCase"), ("stands 999999999", "NoCase"), ("who 1 3", "NoThing"),
            ("who 999999999 3", "NoThing"),
            ("who 0 10000", "NoMeasure"), ("who 7 10000", "NoMeasure"), ("who 0 999999999", "NoMeasure"),
            ("forsworn zoe", "Unknown"), ("balance zoe 3", "Unknown"), ("balance zoe 10000", "NoMeasure"),
            ("balance ann 10000", "NoMeasure"), ("stands 1000000000", "NoDeed"), ("who 1000000000 3", "NoDeed"),
            ("who 0 1000000000", "NoDeed"), ("balance ann 1000000000", "NoDeed"), ("stands 00", "NoDeed"),
            ("stands -1", "NoDeed"), ("who 0 01", "NoDeed"), ("forsworn Ann", "NoDeed"), ("forsworn 0", "NoDeed"),
            ("forsworn abcdefghijklm", "NoDeed"), ("balance 0 ann", "NoDeed"), ("stands ann", "NoDeed"),
        ):
            self.assert_says(desk, line, (False, refusal))
        self.assert_says(desk, "moment", (True, 7))

    def test_lines_of_no_form(self):
        desk = desk_of(SOME)
        desk.say("undo")
        words = ("undo", "redo", "moment", "stands 0", "who 0 3", "forsworn ann", "balance ann 3", "penance ann")
        texts = ["", " ", "hello", "undo undo", "redo 1", "moment 0", "moment ann", "stands", "who 0", "who", "forsworn",
                 "balance ann", "balance", "stands 0 0", "who 0 3 4", "forsworn ann bob", "balance ann 3 4", "Undo",
                 "UNDO", "undone", "re do", "waiting", "now", "holder 0 3", "stand 0", "does", "+ -", "0", "ann"]
        for word in words:
            texts += [" " + word, word + " ", word.replace(" ", "  ") + "  ", word + "\n", word.upper(), word + " +"]
        for text in texts:
            self.assert_says(desk, text, (False, "NoDeed"))
        self.assert_says(desk, "moment", (True, 6))
        self.assertEqual(desk.past.waiting(), 1)

    def test_each_refusal_that_a_line_can_meet(self):
        names = FORTY[:13]
        desk = desk_of(SOME + [f"come {name} 0 1" for name in names] + ["die aa 9 ab"])
        met = []
        for line, refusal in (
            ("come dan 10000 1", "NoMeasure"), ("come dan 0 0", "NoMeasure"), ("rise zoe 0 1", "Unknown"),
            ("come ann 0 1", "Taken"), ("give 1 ann bob 4", "NoThing"), ("accuse 3 ann 5 1 + ann -", "NoCase"),
            ("accuse 0 ann 5 1 + ann -", "NoOath"), ("bring cid 1", "NotYet"), ("penance aa", "Dead"),
            ("die ann 5 aa", "NoHeir"), ("die ann 5 ann", "NoHeir"),
            (f"claim ann 0 4 1 + {' '.join(names)} -", "TooMany"), ("claim ann 0 4 1 + ann - ann", "SwornTwice"),
            ("claim ann 0 4 1 + bob -", "Forsworn"), ("claim ann 0 4 11 + ann -", "TooLight"),
            ("accuse 0 bob 5 1 + ann -", "Broken"), ("redo", "NothingForth"), ("claim ann 0 4 1 + ann", "NoDeed"),
        ):
            self.assert_says(desk, line, (False, refusal))
            met.append(refusal)
        self.assert_says(Desk(), "undo", (False, "NothingBack"))
        # No line writes a name that is none, or asks for a moment.
        self.assertEqual(set(REFUSALS) - set(met), {"NothingBack", "NoName", "NoMoment"})

    def test_undo_and_redo_by_lines_and_by_the_past(self):
        desk = desk_of(SOME)
        self.assert_says(desk, "undo", (True, None))
        self.assert_says(desk, "undo", (True, None))
        self.assertEqual([desk.past.waiting(), desk.past.moot.now()], [2, 5])
        desk.past.redo()
        self.assert_says(desk, "moment", (True, 6))
        self.assert_says(desk, "stands 1", (True, True))
        self.assert_says(desk, "redo", (True, None))
        self.assert_says(desk, "redo", (False, "NothingForth"))
        self.assert_says(desk, "stands 0", (True, False))
        desk.past.undo()
        self.assert_says(desk, "stands 0", (True, True))
        desk.past.does(("penance", "ann"))
        self.assert_says(desk, "redo", (False, "NothingForth"))
        self.assert_says(desk, "moment", (True, 7))
        self.assert_says(desk, "undo", (True, None))
        self.assert_says(desk, "penance zoe", (False, "Unknown"))
        self.assertEqual(desk.past.waiting(), 1)
        self.assert_says(desk, "penance bob", (True, None))
        self.assertEqual(desk.past.waiting(), 0)

    def test_questions_let_nothing_go(self):
        desk = desk_of(SOME)
        desk.say("undo")
        for line in ("stands 0", "who 0 3", "forsworn ann", "balance ann 3", "moment", "stands 9", "nonsense", ""):
            desk.say(line)
            self.assertEqual([desk.past.waiting(), desk.past.moot.now()], [1, 6])

    def test_made_lines_by_hand(self):
        told = []
        for seed in range(12):
            chance = random.Random(seed)
            desk, past = Desk(), Past()
            for line in lines(made_moot(seed, 20)[0]):
                self.assert_says(desk, line, said_by_hand(past, line))
            for turn in range(150):
                deed = made_deed(chance, past.moot, wrong=0.05)
                name, number = chance.choice(("ann", "bob", "cid", "zoe", "Ann")), chance.choice((0, 1, 2, 5, 20, 10000))
                line = chance.choice((
                    shown_deed(deed), shown_deed(deed), "undo", "undo", "redo", f"stands {number}", "moment",
                    f"who {number} {chance.choice((0, 9, 20, 10000))}", f"forsworn {name}", f"balance {name} {number}",
                ))
                if chance.random() < 0.05:
                    line = line + chance.choice((" ", " 0", " ann", "x"))
                said = said_by_hand(past, line)
                self.assert_says(desk, line, said)
                told.append(said[1] if not said[0] else True)
                self.assertEqual(desk.past.waiting(), past.waiting())
            self.assertEqual(all_told(desk.past.moot, DAYS), all_told(past.moot, DAYS))
            self.assertEqual(all_told(desk.past.moot, DAYS), all_told(moot_of(past.moot.roll()), DAYS))
        self.assertGreater(len(set(told)), 8)

    def test_two_desks(self):
        one, other = Desk(), Desk()
        for line in SOME:
            one.say(line)
            self.assert_says(other, "moment", (True, 0))
        for place, line in enumerate(SOME[:3]):
            other.say(line)
            one.say("undo")
            self.assert_says(other, "moment", (True, place + 1))
            self.assert_says(one, "moment", (True, 6 - place))
        self.assert_says(other, "redo", (False, "NothingForth"))
        self.assert_says(one, "redo", (True, None))
        self.assertEqual(lines(other.past.moot), SOME[:3])
        self.assertEqual(lines(one.past.moot), SOME[:5])


class Called(unittest.TestCase):
    def test_each_refusal_knows_what_its_class_is_called(self):
        for name in REFUSALS + ("MootError",):
            self.assertEqual(getattr(errors, name)("some words").called(), name)
