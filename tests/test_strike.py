"""forsworn.strike: the struck moot of [18]."""

import unittest

from forsworn.deeds import done
from forsworn.errors import MootError
from forsworn.moot import Moot
from forsworn.strike import struck
from tests.helper import FORTY, TRIED, SlowMoot, all_told, deep, full_moot, made_moot, moot_of

DAYS = tuple(range(0, 23)) + (9999,)


def struck_roll(moot):
    """The roll of the struck moot by the words of [18]."""
    slow = SlowMoot(moot.roll())
    told = []
    case = -1
    for deed in slow.told:
        case += deed[0] in TRIED
        if deed[0] not in TRIED:
            told.append(deed)
        elif deed[0] != "accuse" and slow.stands(case):
            sides = [[name for name in side if not slow.breakers(case, name)] for side in deed[-2:]]
            told.append(deed[:-2] + tuple(sides))
    return told


def roads_and_debts(moot, days):
    told = []
    for day in days:
        told.append([(moot.road(thing, day), moot.holder(thing, day)) for thing in range(moot.things())])
        told.append([(moot.holds(name, day), moot.balance(name, day)) for name in moot.names()])
        told.append(moot.owed(day))
    return told


class Struck(unittest.TestCase):
    def assert_struck(self, moot, days=DAYS):
        before = deep(moot.roll())
        other = struck(moot)
        self.assertIs(type(other), Moot)
        self.assertIsNot(other, moot)
        self.assertEqual(other.roll(), struck_roll(moot))
        # None of its deeds is refused.
        self.assertEqual(moot_of(struck_roll(moot)).roll(), other.roll())
        self.assertEqual(other.standing(), [True] * other.cases())
        self.assertEqual(roads_and_debts(other, days), roads_and_debts(moot, days))
        self.assertEqual([name for name in other.names() if other.forsworn(name)], [])
        self.assertEqual(deep(moot.roll()), before)
        return other

    def court(self):
        deeds = [("come", name, 0, weight) for name, weight in (("ann", 9), ("bob", 5), ("cid", 3), ("dan", 2))]
        return deeds + [("bring", "ann", 1), ("bring", "bob", 1)]

    def test_nothing(self):
        self.assertEqual(struck(Moot()).roll(), [])
        self.assertEqual(struck(moot_of(self.court())).roll(), self.court())

    def test_by_hand(self):
        moot = moot_of(self.court() + [
            ("claim", "cid", 0, 3, 4, ["ann", "bob"], ["cid", "dan"]),
            ("wergild", "ann", "dan", 7, 3, 5, ["bob"], ["cid"]),
            ("accuse", 0, "bob", 4, 3, ["ann"], []),
            ("penance", "bob"),
            ("accuse", 0, "dan", 5, 3, ["bob"], []),
            ("wergild", "bob", "dan", 8, 3, 1, ["bob"], []),
            ("give", 0, "cid", "ann", 6),
        ])
        self.assertEqual(moot.standing(), [True, False, True, True, True])
        self.assertEqual(self.assert_struck(moot).roll(), self.court() + [
            ("claim", "cid", 0, 3, 4, ["ann"], ["cid"]),
            ("penance", "bob"),
            ("wergild", "bob", "dan", 8, 3, 1, ["bob"], []),
            ("give", 0, "cid", "ann", 6),
        ])

    def test_a_falling_accusing_breaks_nothing(self):
        moot = moot_of(self.court() + [
            ("claim", "cid", 0, 3, 4, ["bob"], []), ("accuse", 0, "bob", 4, 3, ["cid"], ["dan"]),
        ])
        self.assertEqual(self.assert_struck(moot).roll(), self.court() + [("claim", "cid", 0, 3, 4, ["bob"], [])])
        moot.accuse(1, "dan", 4, 1, ["ann"], [])
        self.assertEqual(self.assert_struck(moot).roll(), self.court())

    def test_the_same_name_in_another_case_stays(self):
        moot = moot_of(self.court() + [
            ("claim", "cid", 0, 3, 4, ["ann", "dan"], []), ("claim", "dan", 1, 3, 2, ["dan"], []),
            ("accuse", 0, "dan", 4, 3, ["cid"], []),
        ])
        self.assertEqual(self.assert_struck(moot).roll()[-2:], [
            ("claim", "cid", 0, 3, 4, ["ann"], []), ("claim", "dan", 1, 3, 2, ["dan"], []),
        ])

    def test_rises_and_deaths_that_are_told_later(self):
        moot = moot_of(self.court() + [
            ("wergild", "ann", "bob", 7, 5, 9, ["ann"], []), ("rise", "ann", 2, 1), ("die", "ann", 3, "cid"),
            ("wergild", "bob", "cid", 2, 5, 2, ["dan"], []), ("give", 0, "cid", "dan", 5),
        ])
        self.assertEqual(self.assert_struck(moot).roll(), moot.roll())

    def test_made_moots(self):
        less = 0
        for seed in range(40):
            moot, tried = made_moot(seed, 60)
            other = self.assert_struck(moot)
            less += moot.now() - other.now()
            self.assertEqual(struck(other).roll(), other.roll())
        self.assertGreater(less, 400)

    def test_moots_of_the_full_size(self):
        for seed in (1, 2):
            self.assert_struck(full_moot(seed), (0, 45, 499, 500, 9000, 9999))

    def test_sixty_cases_in_a_line(self):
        for many in (59, 60):
            moot = Moot()
            for name in FORTY[:2]:
                moot.come(name, 0, 5)
            moot.bring("aa", 0)
            moot.claim("ab", 0, 5, 5, ["aa"], [])
            for case in range(1, many):
                moot.penance(FORTY[case % 2])
                moot.accuse(case - 1, FORTY[(case - 1) % 2], 5, 5, [FORTY[case % 2]], [])
            self.assertIs(moot.stands(0), many == 59)
            other = self.assert_struck(moot)
            self.assertEqual(other.cases(), 1 if many == 59 else 0)
            self.assertEqual(other.holder(0, 9), "ab" if many == 59 else "aa")

    def test_they_go_apart(self):
        for seed in range(6):
            moot, tried = made_moot(seed, 45)
            other = struck(moot)
            for changed, kept in ((other, moot), (moot, other)):
                before = all_told(kept, (5, 20))
                for deed in (("come", "yan", 0, 9), ("bring", "yan", 3), ("rise", "yan", 3, 9),
                             ("give", changed.things(), "yan", "yan", 4), ("penance", "yan"),
                             ("pay", "yan", "yan", 1, 1), ("wergild", "yan", "yan", 1, 1, 1, ["yan"], []),
                             ("accuse", changed.cases(), "yan", 1, 1, ["yan"], [])):
                    done(changed, deed)
                    self.assertEqual(all_told(kept, (5, 20)), before)
            with self.assertRaises(MootError):
                moot.come("yan", 0, 9)
