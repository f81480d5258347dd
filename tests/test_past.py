"""forsworn.past: [20], and of [1] and [17] what touches it."""

import random
import time
import unittest

from forsworn.deeds import done
from forsworn.errors import MootError, NothingBack, NothingForth, TooLight, Unknown
from forsworn.moot import Moot
from forsworn.past import Past
from tests.helper import Refusing, all_told, deep, full_moot, made_deed, made_moot, moot_of

DAYS = (0, 4, 9, 14, 20)
COMINGS = [("come", name, 0, 9) for name in ("ann", "bob", "cid")]


def past_of(deeds):
    past = Past()
    for deed in deeds:
        past.does(deed)
    return past


class Steps(unittest.TestCase, Refusing):
    def assert_past(self, past, deeds, waiting):
        self.assertIsInstance(past.moot, Moot)
        self.assertEqual(past.waiting(), waiting)
        self.assertEqual(past.moot.roll(), deeds)
        self.assertEqual(all_told(past.moot, DAYS), all_told(moot_of(deeds), DAYS))

    def test_a_new_past(self):
        past = Past()
        self.assert_past(past, [], 0)
        self.assert_refused(NothingBack, past.undo)
        self.assert_refused(NothingForth, past.redo)
        self.assert_past(past, [], 0)

    def test_what_a_deed_tells(self):
        for seed in range(5):
            past, moot = Past(), Moot()
            for deed in made_moot(seed, 40)[0].roll():
                self.assertEqual(past.does(deed), done(moot, deed))
            self.assert_past(past, moot.roll(), 0)

    def test_back_and_forth(self):
        past = past_of(COMINGS)
        self.assertIsNone(past.undo())
        self.assert_past(past, COMINGS[:2], 1)
        self.assertIsNone(past.undo())
        self.assert_past(past, COMINGS[:1], 2)
        self.assertIsNone(past.redo())
        self.assert_past(past, COMINGS[:2], 1)
        self.assertIsNone(past.redo())
        self.assert_past(past, COMINGS, 0)
        self.assert_refused(NothingForth, past.redo)
        self.assert_past(past, COMINGS, 0)
        for waiting in (1, 2, 3):
            past.undo()
            self.assert_past(past, COMINGS[:3 - waiting], waiting)
        self.assert_refused(NothingBack, past.undo)
        self.assert_past(past, [], 3)
        past.redo()
        self.assert_past(past, COMINGS[:1], 2)

    def test_a_deed_that_is_not_refused_lets_go(self):
        past = past_of(COMINGS)
        past.undo()
        past.undo()
        self.assertIsNone(past.does(("come", "dan", 0, 9)))
        self.assert_past(past, COMINGS[:1] + [("come", "dan", 0, 9)], 0)
        self.assert_refused(NothingForth, past.redo)
        past.undo()
        self.assert_past(past, COMINGS[:1], 1)
        # The very deed that waits lets it go, too.
        past.does(("come", "dan", 0, 9))
        self.assert_past(past, COMINGS[:1] + [("come", "dan", 0, 9)], 0)

    def test_a_refused_deed_does_not(self):
        past = past_of(COMINGS)
        past.undo()
        past.undo()
        for deed, refusal in ((("penance", "cid"), Unknown),
                              (("wergild", "ann", "ann", 5, 5, 10, ["ann"], []), TooLight)):
            self.assert_refused(refusal, past.does, deed)
            self.assert_past(past, COMINGS[:1], 2)
        past.redo()
        past.redo()
        self.assert_past(past, COMINGS, 0)
        self.assert_refused(Unknown, past.does, ("penance", "dan"))
        self.assert_past(past, COMINGS, 0)

    def test_each_deed_taken_back_and_done_again(self):
        base = COMINGS + [("bring", "ann", 1), ("wergild", "ann", "bob", 5, 3, 4, ["ann"], ["bob"])]
        for deed in (("come", "dan", 3, 4), ("rise", "ann", 3, 4), ("die", "ann", 3, "bob"), ("penance", "ann"),
                     ("bring", "bob", 3), ("give", 0, "ann", "bob", 3), ("pay", "ann", "bob", 3, 3),
                     ("claim", "bob", 0, 3, 5, ["bob"], []), ("wergild", "bob", "cid", 5, 3, 5, ["bob"], []),
                     ("accuse", 0, "bob", 3, 5, ["cid"], [])):
            past = past_of(base + [deed])
            past.undo()
            self.assert_past(past, base, 1)
            past.redo()
            self.assert_past(past, base + [deed], 0)

    def test_made_runs(self):
        steps = {"does": 0, "refused": 0, "undo": 0, "redo": 0, "NothingBack": 0, "NothingForth": 0}
        for seed in range(12):
            chance = random.Random(seed)
            past = Past()
            stand, back = [], []
            for turn in range(150):
                step = chance.choice(("does", "does", "does", "undo", "redo"))
                if step == "does":
                    coming = ("come", chance.choice(("ann", "bob", "cid", "dan", "eve", "fay")), 0, 9)
                    deed = coming if past.moot.now() < 8 else made_deed(chance, past.moot)
                    try:
                        told = done(past.moot.twin(), deed)
                    except MootError as refusal:
                        step = "refused"
                        self.assert_refused(type(refusal), past.does, deed)
                    else:
                        self.assertEqual(past.does(deed), told)
                        stand.append(deed)
                        back = []
                elif step == "undo" and stand:
                    self.assertIsNone(past.undo())
                    back.append(stand.pop())
                elif step == "redo" and back:
                    self.assertIsNone(past.redo())
                    stand.append(back.pop())
                else:
                    step = "NothingBack" if step == "undo" else "NothingForth"
                    refusal, call = (NothingBack, past.undo) if step == "NothingBack" else (NothingForth, past.redo)
                    self.assert_refused(refusal, call)
                steps[step] += 1
                self.assertEqual(past.waiting(), len(back))
                self.assertEqual(past.moot.roll(), stand)
                if turn % 10 == 0:
                    self.assert_past(past, stand, len(back))
        self.assertTrue(all(steps.values()), steps)


class LongPasts(unittest.TestCase, Refusing):
    def test_four_hundred_moments_back_and_forth(self):
        moot = full_moot(4)
        begun = time.perf_counter()
        past = past_of(moot.roll())
        roll = moot.roll()
        for moment in range(399, -1, -1):
            past.undo()
            self.assertEqual([past.moot.now(), past.waiting()], [moment, 400 - moment])
            if moment % 50 == 7:
                self.assertEqual(all_told(past.moot, (45, 600)), all_told(moot_of(roll[:moment]), (45, 600)))
        self.assert_refused(NothingBack, past.undo)
        self.assertEqual(past.moot.roll(), [])
        for moment in range(1, 401):
            past.redo()
            self.assertEqual([past.moot.now(), past.waiting()], [moment, 400 - moment])
        self.assert_refused(NothingForth, past.redo)
        self.assertEqual(all_told(past.moot, (45, 600)), all_told(moot, (45, 600)))
        self.assertLess(time.perf_counter() - begun, 60)

    def test_a_deed_too_many_lets_nothing_go(self):
        past = past_of(full_moot(5).roll())
        with self.assertRaises(MootError):
            past.does(("pay", "aa", "ab", 1, 9))
        past.undo()
        self.assertEqual([past.moot.now(), past.waiting()], [399, 1])
        past.redo()
        self.assertEqual([past.moot.now(), past.waiting()], [400, 0])


class Untouched(unittest.TestCase):
    def test_lists_that_are_changed_behind_the_call(self):
        deed = ("wergild", "ann", "bob", 5, 3, 4, ["ann"], ["bob"])
        kept = ("wergild", "ann", "bob", 5, 3, 4, ["ann"], ["bob"])
        past = past_of(COMINGS)
        past.does(deed)
        self.assertEqual(deed, kept)
        deed[6].append("cid")
        deed[7].clear()
        self.assertEqual(past.moot.roll()[3], kept)
        past.undo()
        deed[6].append("dan")
        past.redo()
        self.assertEqual(past.moot.roll()[3], kept)
        self.assertEqual(past.moot.suits(), [([("ann", 9)], [("bob", 9)], 4, None)])

    def test_told_rolls_that_are_changed(self):
        kept = ("wergild", "ann", "bob", 5, 3, 4, ["ann"], ["bob"])
        past = past_of(COMINGS + [kept])
        told = past.moot.roll()
        told[3][6].clear()
        told.clear()
        past.undo()
        past.redo()
        self.assertEqual(past.moot.roll(), COMINGS + [kept])

    def test_two_pasts_and_a_moot_by_turns(self):
        one, other, moot = Past(), Past(), Moot()
        for deed in COMINGS:
            one.does(deed)
            done(moot, deed)
        self.assertEqual([other.moot.now(), other.waiting()], [0, 0])
        other.does(COMINGS[2])
        one.undo()
        self.assertEqual([other.moot.names(), other.waiting(), moot.now()], [["cid"], 0, 3])
        other.undo()
        other.redo()
        self.assertEqual([one.moot.names(), one.waiting()], [["ann", "bob"], 1])
        twin = one.moot.twin()
        before = deep(all_told(twin, DAYS))
        one.redo()
        self.assertEqual(deep(all_told(twin, DAYS)), before)
        twin.come("eve", 0, 1)
        self.assertEqual(one.moot.names(), ["ann", "bob", "cid"])
