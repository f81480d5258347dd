"""forsworn.known, and a moot's then and twin: [18]; forsworn.deeds: done."""

import random
import unittest

from forsworn.deeds import done
from forsworn.errors import MootError, NoMoment, Unknown
from forsworn.known import moved, turned
from forsworn.moot import Moot
from tests.helper import Refusing, SlowMoot, all_told, deep, made_deed, made_moot, moot_of

DAYS = (0, 4, 9, 14, 20)


class Then(unittest.TestCase, Refusing):
    def test_each_moment_is_the_moot_of_the_first_deeds(self):
        for seed in range(8):
            moot, tried = made_moot(seed, 45)
            told = all_told(moot, DAYS)
            fresh = Moot()
            for moment in range(moot.now() + 1):
                then = moot.then(moment)
                self.assertIsInstance(then, Moot)
                self.assertEqual(then.roll(), moot.roll()[:moment])
                self.assertEqual(all_told(then, DAYS, wrong=False), all_told(fresh, DAYS, wrong=False))
                if moment < moot.now():
                    done(fresh, moot.roll()[moment])
            self.assertEqual(all_told(moot, DAYS), told)

    def test_the_first_and_the_last_moment(self):
        moot, tried = made_moot(3, 45)
        self.assertEqual(all_told(moot.then(0), DAYS), all_told(Moot(), DAYS))
        self.assertEqual(all_told(moot.then(45), DAYS), all_told(moot, DAYS))
        self.assertEqual(all_told(moot.twin(), DAYS), all_told(moot, DAYS))
        for other in (moot.twin(), moot.then(45), moot.then(0)):
            self.assertIsNot(other, moot)
        self.assert_refused(NoMoment, moot.then, 46)
        self.assert_refused(NoMoment, moot.then, -1)

    def test_what_was_known_knows_its_own_past(self):
        moot, tried = made_moot(4, 45)
        self.assertEqual(all_told(moot.then(30).then(12), DAYS), all_told(moot.then(12), DAYS))
        self.assert_refused(NoMoment, moot.then(30).then, 31)

    def test_they_go_apart(self):
        for seed in range(6):
            chance = random.Random(seed)
            first, tried = made_moot(seed, 30)
            moots = [first]
            rolls = [first.roll()]
            for turn in range(60):
                place = chance.randrange(len(moots))
                if turn % 10 == 0:
                    moment = chance.choice((None, chance.randint(0, moots[place].now())))
                    moots.append(moots[place].twin() if moment is None else moots[place].then(moment))
                    rolls.append(rolls[place][:moment])
                deed = made_deed(chance, moots[place])
                before = [deep(moot.roll()) for moot in moots]
                try:
                    done(moots[place], deed)
                    rolls[place].append(deed)
                except MootError:
                    pass
                for other, moot in enumerate(moots):
                    if other != place:
                        self.assertEqual(deep(moot.roll()), before[other])
            for moot, roll in zip(moots, rolls):
                self.assertEqual(all_told(moot, DAYS), all_told(moot_of(roll), DAYS))

    def test_each_deed_on_one_of_two(self):
        base = [("come", name, 0, 9) for name in ("ann", "bob", "cid")]
        base += [("bring", "ann", 1), ("wergild", "ann", "bob", 5, 3, 4, ["ann"], ["bob"])]
        for deed in (("come", "dan", 3, 4), ("rise", "ann", 3, 4), ("die", "ann", 3, "bob"), ("penance", "ann"),
                     ("bring", "bob", 3), ("give", 0, "ann", "bob", 3), ("pay", "ann", "bob", 3, 3),
                     ("claim", "bob", 0, 3, 5, ["bob"], []), ("wergild", "bob", "cid", 5, 3, 5, ["bob"], []),
                     ("accuse", 0, "bob", 3, 5, ["cid"], [])):
            for turned_about in (False, True):
                moot = moot_of(base)
                twin = moot.twin()
                changed, other = (twin, moot) if turned_about else (moot, twin)
                done(changed, deed)
                self.assertEqual(all_told(other, DAYS), all_told(moot_of(base), DAYS))
                self.assertEqual(all_told(changed, DAYS), all_told(moot_of(base + [deed]), DAYS))
                self.assertEqual(changed.then(len(base)).roll(), base)

    def test_two_new_moots_know_nothing_of_one_another(self):
        one, other = Moot(), Moot()
        one.come("ann", 0, 1)
        self.assertEqual([other.names(), other.now()], [[], 0])
        self.assert_refused(Unknown, other.penance, "ann")


class TurnedAndMoved(unittest.TestCase, Refusing):
    def some(self):
        return moot_of([
            ("come", "ann", 0, 9), ("come", "bob", 0, 9), ("come", "cid", 0, 9), ("bring", "ann", 1), ("bring", "ann", 9),
            ("claim", "bob", 0, 3, 4, ["ann"], []), ("give", 0, "bob", "cid", 5), ("accuse", 0, "ann", 6, 2, ["bob"], []),
            ("accuse", 1, "bob", 7, 2, ["cid"], []),
        ])

    def test_turned(self):
        moot = self.some()
        self.assertEqual([turned(moot, moment) for moment in range(10)], [[]] * 8 + [[0, 1], []])
        moot = moot.then(8)
        self.assertEqual([turned(moot, moment) for moment in range(9)], [[]] * 6 + [[0], [0], []])

    def test_moved(self):
        moot = self.some()
        # On day 3 it is bob's by the claim; as it was known ahead of that, and at moment 8, ann's.
        self.assertEqual([moved(moot, 3, moment) for moment in range(10)], [[]] * 4 + [[0]] * 2 + [[]] * 2 + [[0], []])
        self.assertEqual([moved(moot, 5, moment) for moment in range(10)], [[]] * 4 + [[0]] * 3 + [[], [0], []])
        self.assertEqual([moved(moot, 2, moment) for moment in range(10)], [[]] * 10)
        self.assertEqual([moved(moot, 0, moment) for moment in range(10)], [[]] * 10)

    def test_moved_by_a_death_that_is_told_later(self):
        moot = self.some()
        moot.die("ann", 9, "bob")
        self.assertEqual(moved(moot, 9, 9), [1])
        self.assertEqual(moved(moot, 8, 9), [])
        self.assertEqual(moved(moot, 9999, 10), [])

    def test_what_was_not_there_is_not_told(self):
        moot = self.some()
        self.assertEqual([turned(moot, 5), moved(moot, 9, 3)], [[], []])

    def test_against_two_moots(self):
        seen = [0, 0]
        for seed in range(12):
            moot, tried = made_moot(seed, 50)
            now = SlowMoot(moot.roll())
            before = deep(all_told(moot, DAYS))
            for moment in range(51):
                then = SlowMoot(moot.roll()[:moment])
                cases = [case for case in range(then.cases()) if then.stands(case) != now.stands(case)]
                self.assertEqual(turned(moot, moment), cases)
                for day in (4, 13, 20) if moment % 7 == 1 else (20,):
                    things = [thing for thing in range(then.things()) if then.holder(thing, day) != now.holder(thing, day)]
                    self.assertEqual(moved(moot, day, moment), things)
                    seen[1] += len(things)
                seen[0] += len(cases)
            self.assertEqual(deep(all_told(moot, DAYS)), before)
        self.assertGreater(min(seen), 100)

    def test_told_lists_are_new(self):
        moot = self.some()
        for told, again in ((turned(moot, 8), lambda: turned(moot, 8)), (moved(moot, 5, 8), lambda: moved(moot, 5, 8))):
            kept = list(told)
            told.append("changed")
            self.assertEqual(again(), kept)


class Done(unittest.TestCase, Refusing):
    def test_what_the_method_tells_or_raises(self):
        for seed in range(6):
            tried = made_moot(seed, 45)[1]
            one, other = Moot(), Moot()
            for deed in tried:
                before = deep(deed)
                try:
                    told = getattr(other, deed[0])(*deed[1:])
                except MootError as refusal:
                    self.assert_refused(type(refusal), done, one, deed)
                else:
                    self.assertEqual(done(one, deed), told)
                self.assertEqual(deep(deed), before)
            self.assertEqual(all_told(one, DAYS), all_told(other, DAYS))

    def test_lists_of_a_deed_that_are_changed_behind_it(self):
        moot = moot_of([("come", "ann", 0, 9), ("come", "bob", 0, 9)])
        deed = ("wergild", "ann", "bob", 5, 3, 4, ["ann"], ["bob"])
        done(moot, deed)
        deed[6].append("bob")
        deed[7].clear()
        self.assertEqual(moot.roll()[2], ("wergild", "ann", "bob", 5, 3, 4, ["ann"], ["bob"]))
        self.assertEqual(moot.suits(), [([("ann", 9)], [("bob", 9)], 4, None)])
        self.assertEqual(moot.twin().suits(), moot.suits())
