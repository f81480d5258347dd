"""What holds over the whole program: the interface's names, [1], [17], and moots that go their own ways."""

import importlib
import inspect
import random
import unittest

from forsworn import errors
from forsworn.deeds import done
from forsworn.desk import Desk
from forsworn.dues import balance, owed
from forsworn.errors import MootError
from forsworn.folk import Folk
from forsworn.goods import holder, road
from forsworn.known import moved, turned
from forsworn.moot import Moot
from forsworn.notes import lines, read_deed, relived, shown_deed
from forsworn.oaths import cheapest, fewest_to, heaviest, is_name, total
from forsworn.papers import good_paper, paper
from forsworn.past import Past
from forsworn.stands import bearing, breakers, broken, chain, margin, settled, settled_with
from forsworn.strike import struck
from forsworn.turning import fewest
from tests.helper import (
    QUESTIONS, REFUSALS, all_questions, all_told, answer, deep, line_of_suits, made_deed, made_moot, moot_of, some_oaths,
)

DAYS = (0, 4, 9, 14, 20)
FUNCTIONS = {
    "oaths": {
        "is_name": "text", "total": "side", "heaviest": "side many", "fewest_to": "side goal", "cheapest": "offers goal",
    },
    "stands": {
        "settled": "suits", "settled_with": "suits more", "margin": "suits case", "broken": "suits",
        "breakers": "suits case name", "chain": "suits case", "bearing": "suits case",
    },
    "papers": {"paper": "suits case", "good_paper": "suits case stands entries"},
    "turning": {"fewest": "suits case"},
    "goods": {"road": "brought events folk day", "holder": "brought events folk day"},
    "dues": {"owed": "entries folk day", "balance": "entries folk day name"},
    "deeds": {"done": "moot deed"},
    "known": {"turned": "moot moment", "moved": "moot day moment"},
    "strike": {"struck": "moot"},
    "notes": {"shown_deed": "deed", "read_deed": "text", "lines": "moot", "relived": "lines"},
}
METHODS = {
    "folk.Folk": {
        "come": "name day weight", "rise": "name day weight", "die": "name day heir", "names": "", "came": "name",
        "weight": "name day", "dead": "name day", "stands_for": "name day", "twin": "",
    },
    "moot.Moot": {
        "come": "name day weight", "rise": "name day weight", "die": "name day heir", "penance": "name",
        "give": "thing giver taker day", "pay": "payer taker many day", "bring": "name day",
        "claim": "claimer thing day need ones others", "wergild": "claimer answerer many day need ones others",
        "accuse": "case name day need ones others", "now": "", "roll": "", "names": "", "weight": "name day",
        "dead": "name day", "stands_for": "name day", "things": "", "cases": "", "suits": "", "standing": "",
        "stands": "case", "margin": "case", "breakers": "case name", "chain": "case", "bearing": "case",
        "paper": "case", "fewest": "case", "forsworn": "name", "holder": "thing day", "road": "thing day",
        "holds": "name day", "owed": "day", "balance": "name day", "twin": "", "then": "moment",
    },
    "past.Past": {"does": "deed", "undo": "", "redo": "", "waiting": ""},
    "desk.Desk": {"say": "line"},
}


def arguments(call):
    return " ".join(name for name in inspect.signature(call).parameters if name != "self")


def change(told):
    """Changes every list in what was told, the inner ones too."""
    if isinstance(told, (list, tuple)):
        for part in told:
            change(part)
    if isinstance(told, list):
        told.append("changed")
        told.reverse()


def some_folk():
    folk = Folk()
    for name in ("ann", "bob", "cid"):
        folk.come(name, 0, 5)
    folk.die("ann", 6, "bob")
    return folk


class Interface(unittest.TestCase):
    def test_functions(self):
        for module, functions in FUNCTIONS.items():
            for name, wanted in functions.items():
                call = getattr(importlib.import_module(f"forsworn.{module}"), name)
                self.assertEqual(arguments(call), wanted, name)

    def test_classes(self):
        for path, methods in METHODS.items():
            module, name = path.split(".")
            one = getattr(importlib.import_module(f"forsworn.{module}"), name)
            self.assertEqual(arguments(one), "")
            for method, wanted in methods.items():
                self.assertEqual(arguments(getattr(one, method)), wanted, (path, method))
        self.assertLessEqual(set(QUESTIONS), set(METHODS["moot.Moot"]))

    def test_fields(self):
        self.assertIs(type(Past().moot), Moot)
        self.assertIs(type(Desk().past), Past)
        self.assertIsNot(Past().moot, Past().moot)
        self.assertIsNot(Desk().past, Desk().past)


class Refusals(unittest.TestCase):
    def raising(self):
        deeds = [("come", name, 0, 9) for name in ("ann", "bob", "cid", "ded")]
        deeds += [("come", "lat", 9, 9), ("die", "ded", 3, "ann"), ("bring", "ann", 5)]
        deeds += [("wergild", "ann", "bob", 1, 5, 1, ["ann"], ["bob"]), ("accuse", 0, "bob", 5, 1, ["cid"], [])]
        moot = moot_of(deeds)
        return {
            "NoName": lambda: moot.come("Ann", 0, 9), "NoMeasure": lambda: moot.come("dan", 10000, 9),
            "Unknown": lambda: moot.penance("zoe"), "Taken": lambda: moot.come("ann", 0, 9),
            "NoThing": lambda: moot.holder(1, 0), "NoCase": lambda: moot.stands(-1),
            "NoOath": lambda: moot.breakers(0, "cid"), "NotYet": lambda: moot.bring("lat", 8),
            "Dead": lambda: moot.bring("ded", 3), "NoHeir": lambda: moot.die("ann", 5, "ded"),
            "TooMany": lambda: moot.claim("ann", 0, 5, 1, ["ann"] * 13, []),
            "SwornTwice": lambda: moot.claim("ann", 0, 5, 1, ["ann"], ["ann"]),
            "Forsworn": lambda: moot.claim("ann", 0, 5, 1, ["bob"], []),
            "TooLight": lambda: moot.claim("ann", 0, 5, 10, ["ann"], []),
            "Broken": lambda: moot.accuse(0, "bob", 5, 1, ["ann"], []), "NoMoment": lambda: moot.then(10),
            "NothingBack": Past().undo, "NothingForth": Past().redo, "NoDeed": lambda: read_deed("come"),
        }

    def test_each_of_the_nineteen(self):
        raising = self.raising()
        self.assertEqual(tuple(raising), REFUSALS)
        for name, call in raising.items():
            with self.assertRaises(MootError) as caught:
                call()
            self.assertIs(type(caught.exception), getattr(errors, name))
            self.assertIsInstance(caught.exception, ValueError)
            kinds = [other for other in REFUSALS if isinstance(caught.exception, getattr(errors, other))]
            self.assertEqual(kinds, [name])
            self.assertIsInstance(caught.exception.args[0], str)


class Untouched(unittest.TestCase):
    """[1] for each function of the interface."""

    def calls(self):
        suits = line_of_suits(3, 12, 4, weight=9)
        side = [("ann", 3), ("bob", 9), ("cid", 1)]
        entries = [(3, "ann", "bob", 5), (1, "bob", "cid", 2)]
        events = [(7, "given", "bob", "cid"), (4, "won", None, "ann")]
        moot = made_moot(1, 40)[0]
        deed = ("claim", "ann", 0, 3, 2, ["ann", "bob"], ["cid"])
        return [
            (is_name, "ann"), (total, side), (heaviest, side, 2), (fewest_to, side, 10), (fewest_to, side, 99),
            (cheapest, [(4, 10), (1, 5), (2, 5)], 10), (settled, suits), (settled_with, suits, some_oaths(4, suits)),
            (broken, suits), (breakers, suits, 0, suits[0][0][0][0]), (chain, suits, 9), (bearing, suits, 0),
            (margin, suits, 3), (paper, suits, 0), (good_paper, suits, 0, settled(suits)[0], paper(suits, 0)),
            (fewest, suits, 0), (road, ("ann", 2), events, some_folk(), 9), (holder, ("ann", 2), events, some_folk(), 9),
            (owed, entries, some_folk(), 9), (balance, entries, some_folk(), 9, "cid"), (turned, moot, 20),
            (moved, moot, 9, 20), (shown_deed, deed), (read_deed, shown_deed(deed)), (lines, moot),
        ]

    def seen(self, value):
        """All that lies in an argument; of a moot or a folk all that it tells."""
        if isinstance(value, Moot):
            return deep(all_told(value, DAYS))
        if isinstance(value, Folk):
            return deep([(name, value.weight(name, 9), value.stands_for(name, 9)) for name in value.names()])
        return deep(value)

    def test_what_is_handed_in_stays_and_what_is_told_is_new(self):
        for call, *handed in self.calls():
            before = [self.seen(value) for value in handed]
            told = call(*handed)
            kept = deep(told)
            self.assertEqual([self.seen(value) for value in handed], before, call)
            change(told)
            self.assertEqual([self.seen(value) for value in handed], before, call)
            self.assertEqual(deep(call(*handed)), kept, call)

    def test_all_functions_are_among_them(self):
        called = {call.__name__ for call, *handed in self.calls()}
        wanted = {name for functions in FUNCTIONS.values() for name in functions}
        # These do a deed or tell a moot; they are looked at below.
        self.assertEqual(wanted - called, {"done", "struck", "relived"})

    def test_done_struck_and_relived(self):
        moot = made_moot(2, 40)[0]
        before = deep(all_told(moot, DAYS))
        written = lines(moot)
        kept = list(written)
        other, again = struck(moot), relived(written)
        change(written)
        self.assertEqual(lines(again), kept)
        deed = ("come", "yan", 0, 9)
        for one in (other, again):
            done(one, deed)
        self.assertEqual(deed, ("come", "yan", 0, 9))
        self.assertEqual(deep(all_told(moot, DAYS)), before)

    def test_questions_change_nothing_in_any_order(self):
        moot = made_moot(3, 45)[0]
        asked = list(all_questions(moot, DAYS))
        forth = {one: deep(answer(moot, *one)) for one in asked}
        for one in reversed(asked):
            self.assertEqual(deep(answer(moot, *one)), forth[one], one)


class ByTurns(unittest.TestCase):
    def test_moots_pasts_and_desks(self):
        """One moot by itself, one of a past, one of a desk, by turns: each is what its own deeds make of it."""
        for seed in range(4):
            chance = random.Random(seed)
            moot, past, desk = Moot(), Past(), Desk()
            does = [lambda deed: done(moot, deed), past.does, lambda deed: desk.say(shown_deed(deed))]
            now = [lambda: moot, lambda: past.moot, lambda: desk.past.moot]
            rolls = [[], [], []]
            for name in ("ann", "bob", "cid", "dan", "eve", "fay"):
                for place in range(3):
                    does[place](("come", name, 0, chance.randint(1, 9)))
                    rolls[place] = now[place]().roll()
            for turn in range(120):
                place = chance.randrange(3)
                try:
                    if place and chance.random() < 0.2:
                        (past if place == 1 else desk.past).undo()
                    else:
                        does[place](made_deed(chance, now[place](), wrong=0))
                except MootError:
                    pass
                for other in range(3):
                    if other != place:
                        self.assertEqual(now[other]().roll(), rolls[other])
                rolls[place] = now[place]().roll()
            for place in range(3):
                self.assertEqual(all_told(now[place](), DAYS), all_told(moot_of(rolls[place]), DAYS))
