"""forsworn.moot: [14], [15], [16], [19], and [1], [4], [5], [8] to [13] as a moot tells them."""

import unittest

from forsworn import errors, papers, stands, turning
from forsworn.deeds import done
from forsworn.errors import Broken, Dead, Forsworn, MootError, NotYet, TooLight
from forsworn.moot import Moot
from tests.helper import (
    ARGUMENTS, FREE, TRIED, Refusing, SlowMoot, all_told, deep, made_moot, moot_of, slow_standing, swearers,
)

WEIGHTS = {"ann": 10, "bob": 7, "cid": 5, "dan": 3, "eve": 2, "fay": 1, "gus": 20, "hob": 20}
DAYS = (0, 3, 5, 8, 10, 12, 15, 20)


def court():
    """Eight folk of day 0, and two things that ann and bob brought on day 2."""
    moot = Moot()
    for name, weight in WEIGHTS.items():
        moot.come(name, 0, weight)
    moot.bring("ann", 2)
    moot.bring("bob", 2)
    return moot


def one_of_each():
    """Each deed once at least, all granted in this order."""
    return [
        ("come", "ann", 0, 10), ("come", "bob", 1, 7), ("come", "cid", 2, 5), ("rise", "ann", 3, 12),
        ("bring", "ann", 3), ("bring", "bob", 2), ("give", 0, "ann", "bob", 4), ("pay", "bob", "cid", 1000000, 5),
        ("claim", "cid", 0, 6, 5, ["cid", "bob"], ["ann"]), ("wergild", "ann", "bob", 30, 6, 9, ["ann"], []),
        ("accuse", 0, "bob", 7, 12, ["ann"], ["cid"]), ("penance", "bob"), ("die", "cid", 9, "ann"),
        ("accuse", 1, "ann", 8, 7, ["bob"], []),
    ]


TOLD_BY_EACH = [None, None, None, None, 0, 1, None, None, 0, 1, 2, None, None, 3]


class Deeds(unittest.TestCase, Refusing):
    def test_a_new_moot(self):
        moot = Moot()
        self.assertEqual([moot.now(), moot.things(), moot.cases()], [0, 0, 0])
        self.assertEqual([moot.roll(), moot.names(), moot.suits(), moot.standing(), moot.owed(0)], [[]] * 5)

    def test_what_each_deed_tells_and_the_moments(self):
        moot = Moot()
        for place, (deed, told) in enumerate(zip(one_of_each(), TOLD_BY_EACH)):
            self.assertEqual(moot.now(), place)
            self.assertEqual(done(moot, deed), told, deed)
            self.assertEqual(moot.now(), place + 1)
            self.assertEqual(moot.roll(), one_of_each()[:place + 1])
        self.assertEqual([moot.things(), moot.cases()], [2, 4])
        self.assertEqual(moot.names(), ["ann", "bob", "cid"])

    def test_arguments_by_their_names(self):
        called = {"accused": "name"}
        moot = Moot()
        for deed, told in zip(one_of_each(), TOLD_BY_EACH):
            names = [called.get(key, key) for key in ARGUMENTS[deed[0]]]
            self.assertEqual(getattr(moot, deed[0])(**dict(zip(names, deed[1:]))), told)
        self.assertEqual(moot.roll(), one_of_each())

    def test_the_roll_is_of_tuples_with_lists(self):
        for deed in moot_of(one_of_each()).roll():
            self.assertIs(type(deed), tuple)
            for part in deed[-2:] if deed[0] in TRIED else ():
                self.assertIs(type(part), list)

    def test_things_and_cases_are_numbered_each_by_themselves(self):
        moot = court()
        self.assertEqual(moot.wergild("ann", "bob", 5, 5, 1, ["cid"], []), 0)
        self.assertEqual(moot.bring("cid", 9), 2)
        self.assertEqual(moot.accuse(0, "cid", 5, 1, ["dan"], []), 1)
        self.assertEqual(moot.claim("ann", 1, 3, 1, ["eve"], []), 2)
        self.assertEqual(moot.bring("ann", 0), 3)
        self.assertEqual(moot.claim("ann", 3, 3, 1, ["eve"], []), 3)
        self.assertEqual([moot.things(), moot.cases()], [4, 4])

    def test_a_refused_deed_changes_nothing(self):
        moot = moot_of(one_of_each())
        before = all_told(moot, DAYS)
        for refusal, deed in (
            (errors.NoName, ("come", "Dan", 3, 4)), (errors.Taken, ("come", "ann", 3, 4)),
            (errors.NoMeasure, ("rise", "ann", 8, 1001)), (Dead, ("rise", "cid", 9, 4)),
            (errors.NoHeir, ("die", "ann", 9, "ann")), (Dead, ("penance", "cid")), (Dead, ("bring", "cid", 9)),
            (errors.NoThing, ("give", 2, "ann", "bob", 9)), (NotYet, ("give", 0, "ann", "bob", 2)),
            (errors.NoMeasure, ("pay", "ann", "bob", 0, 9)), (errors.Unknown, ("pay", "ann", "zoe", 5, 9)),
            (TooLight, ("claim", "ann", 0, 9, 13, ["bob"], [])),
            (TooLight, ("wergild", "ann", "bob", 9, 9, 8, ["bob"], [])),
            (Forsworn, ("wergild", "ann", "bob", 9, 9, 8, ["bob"], ["ann"])),
            (errors.SwornTwice, ("claim", "bob", 0, 9, 3, ["bob"], ["bob"])),
            (Broken, ("accuse", 1, "ann", 9, 7, ["bob"], [])), (errors.NoOath, ("accuse", 1, "cid", 9, 7, ["bob"], [])),
            (errors.NoCase, ("accuse", 4, "ann", 9, 7, ["bob"], [])),
        ):
            self.assert_refused(refusal, done, moot, deed)
            self.assertEqual(all_told(moot, DAYS), before, deed)

    def test_made_refusals_change_nothing(self):
        refused = 0
        for seed in range(12):
            moot, tried = made_moot(seed, 40)
            again = Moot()
            for deed in tried:
                before = all_told(again, (4, 11, 20), wrong=False)
                try:
                    done(again, deed)
                except MootError:
                    refused += 1
                    self.assertEqual(all_told(again, (4, 11, 20), wrong=False), before)
            self.assertEqual(all_told(again, DAYS), all_told(moot, DAYS))
        self.assertGreater(refused, 100)


class Suits(unittest.TestCase, Refusing):
    def test_oaths_in_the_order_of_the_names_as_they_were_told(self):
        moot = court()
        moot.claim("ann", 0, 5, 6, ["dan", "ann", "bob"], ["gus", "cid"])
        moot.wergild("ann", "bob", 9, 5, 1, ["fay"], [])
        moot.accuse(0, "gus", 6, 2, ["eve"], ["hob", "dan"])
        self.assertEqual(moot.suits(), [
            ([("dan", 3), ("ann", 10), ("bob", 7)], [("gus", 20), ("cid", 5)], 6, None),
            ([("fay", 1)], [], 1, None),
            ([("eve", 2)], [("hob", 20), ("dan", 3)], 2, (0, "gus")),
        ])

    def test_oaths_weigh_what_is_known_for_the_day_of_the_case(self):
        moot = court()
        moot.rise("ann", 8, 100)
        moot.rise("ann", 6, 50)
        for day, weight in ((0, 10), (5, 10), (6, 50), (7, 50), (8, 100), (9, 100)):
            case = moot.wergild("bob", "cid", 1, day, 1, ["ann"], [])
            self.assertEqual(moot.suits()[case][0], [("ann", weight)])

    def test_what_is_told_later_does_not_change_an_oath(self):
        moot = court()
        moot.wergild("ann", "bob", 1, 5, 10, ["ann"], ["cid"])
        moot.wergild("ann", "bob", 1, 5, 5, ["ann"], ["cid"])
        before = (moot.suits(), moot.standing(), moot.margin(0), moot.margin(1))
        self.assertEqual(before[1:], ([False, True], -5, 0))
        moot.rise("ann", 5, 1000)
        moot.rise("cid", 3, 1000)
        moot.rise("cid", 0, 900)
        moot.die("ann", 4, "bob")
        moot.die("cid", 2, "bob")
        self.assertEqual((moot.suits(), moot.standing(), moot.margin(0), moot.margin(1)), before)
        self.assertEqual(moot.weight("ann", 5), 1000)
        # A case that is brought now goes by what is known now.
        self.assert_refused(Dead, moot.wergild, "bob", "bob", 1, 5, 5, ["ann"], [])
        case = moot.wergild("bob", "bob", 1, 1, 5, ["ann"], ["cid"])
        self.assertEqual(moot.suits()[case], ([("ann", 10)], [("cid", 900)], 5, None))

    def test_just_heavy_enough(self):
        moot = court()
        self.assert_refused(TooLight, moot.claim, "ann", 0, 5, 18, ["ann", "bob"], [])
        self.assertEqual(moot.claim("ann", 0, 5, 17, ["ann", "bob"], ["fay"]), 0)
        self.assertEqual([moot.stands(0), moot.margin(0)], [False, -1])
        self.assert_refused(TooLight, moot.claim, "ann", 0, 5, 1, [], ["bob"])
        moot.rise("fay", 6, 1000)
        self.assertEqual(moot.claim("ann", 0, 6, 1000, ["fay"], []), 1)
        self.assertEqual([moot.stands(1), moot.margin(1)], [True, 0])

    def test_empty_sides(self):
        moot = court()
        moot.claim("ann", 0, 5, 1, ["fay"], [])
        self.assertEqual(moot.suits(), [([("fay", 1)], [], 1, None)])

    def test_the_accused_may_swear_against(self):
        moot = court()
        moot.wergild("ann", "bob", 1, 5, 10, ["ann"], ["cid"])
        self.assertEqual(moot.accuse(0, "ann", 5, 1, ["gus"], ["ann"]), 1)
        self.assertEqual(moot.standing(), [False, True])
        self.assertEqual(moot.accuse(0, "cid", 5, 1, ["cid", "hob"], []), 2)


class Things(unittest.TestCase, Refusing):
    def test_gifts(self):
        moot = court()
        self.assertEqual(moot.holder(0, 9), "ann")
        moot.give(0, "ann", "cid", 5)
        moot.give(0, "bob", "dan", 6)
        moot.give(0, "cid", "cid", 7)
        self.assertEqual(moot.road(0, 9), [
            (2, "brought", None, "ann"), (5, "given", "ann", "cid"), (7, "given", "cid", "cid"),
        ])
        self.assertEqual([moot.holder(0, day) for day in (0, 1, 2, 4, 5, 9999)], [None, None, "ann", "ann"] + ["cid"] * 2)
        self.assertEqual(moot.road(0, 1), [])
        self.assertEqual(moot.road(1, 9), [(2, "brought", None, "bob")])

    def test_a_gift_that_is_void_may_count_behind_a_later_deed(self):
        moot = court()
        moot.give(0, "cid", "dan", 7)
        self.assertEqual(moot.holder(0, 9), "ann")
        moot.give(0, "ann", "cid", 5)
        self.assertEqual(moot.holder(0, 9), "dan")
        moot.give(0, "ann", "eve", 4)
        self.assertEqual(moot.holder(0, 9), "eve")

    def test_claims_that_stand_and_fall(self):
        moot = court()
        moot.claim("cid", 0, 5, 10, ["ann"], [])
        moot.claim("dan", 0, 7, 10, ["ann"], ["fay"])
        self.assertEqual(moot.standing(), [True, False])
        self.assertEqual(moot.road(0, 9), [(2, "brought", None, "ann"), (5, "won", "ann", "cid")])
        # fay's oath breaks, and with it the second claim stands; then ann's of the first one.
        moot.accuse(1, "fay", 9, 1, ["gus"], [])
        self.assertEqual(moot.road(0, 9), [
            (2, "brought", None, "ann"), (5, "won", "ann", "cid"), (7, "won", "cid", "dan"),
        ])
        moot.accuse(0, "ann", 20, 1, ["gus"], [])
        self.assertEqual(moot.road(0, 9), [(2, "brought", None, "ann"), (7, "won", "ann", "dan")])
        # The accusing of the first claim turns: the claim stands again.
        moot.accuse(3, "gus", 20, 1, ["hob"], [])
        self.assertEqual(moot.standing(), [True, True, True, False, True])
        self.assertEqual(moot.holder(0, 6), "cid")
        self.assertEqual(moot.holder(0, 7), "dan")

    def test_gifts_hang_on_claims(self):
        moot = court()
        moot.claim("cid", 0, 5, 10, ["ann"], [])
        moot.give(0, "cid", "dan", 6)
        moot.give(0, "ann", "eve", 6)
        self.assertEqual(moot.holder(0, 9), "dan")
        moot.accuse(0, "ann", 9, 1, ["gus"], [])
        self.assertEqual(moot.holder(0, 9), "eve")

    def test_a_day_in_the_order_of_telling(self):
        moot = court()
        moot.give(0, "ann", "bob", 5)
        moot.claim("cid", 0, 5, 10, ["ann"], [])
        moot.give(0, "cid", "dan", 5)
        moot.give(0, "bob", "eve", 5)
        moot.claim("fay", 1, 5, 10, ["ann"], [])
        moot.claim("dan", 1, 4, 10, ["ann"], [])
        self.assertEqual([step[1:] for step in moot.road(0, 5)], [
            ("brought", None, "ann"), ("given", "ann", "bob"), ("won", "bob", "cid"), ("given", "cid", "dan"),
        ])
        self.assertEqual([step[1:] for step in moot.road(1, 5)], [
            ("brought", None, "bob"), ("won", "bob", "dan"), ("won", "dan", "fay"),
        ])

    def test_one_and_the_same(self):
        moot = court()
        moot.claim("ann", 0, 5, 10, ["ann"], [])
        moot.give(0, "ann", "ann", 6)
        moot.wergild("bob", "bob", 9, 5, 1, ["bob"], [])
        moot.pay("cid", "cid", 9, 5)
        self.assertEqual(moot.road(0, 6), [
            (2, "brought", None, "ann"), (5, "won", "ann", "ann"), (6, "given", "ann", "ann"),
        ])
        self.assertEqual(moot.owed(9), [])

    def test_heirs(self):
        moot = court()
        moot.give(0, "cid", "fay", 9)
        moot.die("ann", 8, "cid")
        self.assertEqual(moot.road(0, 10), [
            (2, "brought", None, "ann"), (8, "left", "ann", "cid"), (9, "given", "cid", "fay"),
        ])
        moot.claim("dan", 0, 8, 10, ["gus"], [])
        self.assertEqual(moot.road(0, 10), [
            (2, "brought", None, "ann"), (8, "left", "ann", "cid"), (8, "won", "cid", "dan"),
        ])

    def test_holds(self):
        moot = court()
        moot.bring("ann", 4)
        moot.bring("ann", 3)
        moot.give(1, "bob", "ann", 6)
        moot.give(0, "ann", "bob", 7)
        for day, ours, theirs in ((1, [], []), (2, [0], [1]), (3, [0, 3], [1]), (4, [0, 2, 3], [1]),
                                  (6, [0, 1, 2, 3], []), (7, [1, 2, 3], [0])):
            self.assertEqual(moot.holds("ann", day), ours)
            self.assertEqual(moot.holds("bob", day), theirs)
            self.assertEqual(moot.holds("cid", day), [])
        moot.die("ann", 8, "cid")
        self.assertEqual([moot.holds("ann", day) for day in (7, 8)], [[1, 2, 3], []])
        self.assertEqual([moot.holds("cid", day) for day in (7, 8)], [[], [1, 2, 3]])


class Money(unittest.TestCase):
    def test_payments(self):
        moot = court()
        moot.pay("ann", "bob", 7, 5)
        self.assertEqual([moot.owed(4), moot.owed(5)], [[], [("bob", "ann", 7)]])
        self.assertEqual([moot.balance(name, 5) for name in ("ann", "bob", "cid")], [7, -7, 0])
        moot.pay("bob", "ann", 9, 4)
        self.assertEqual([moot.owed(4), moot.owed(5)], [[("ann", "bob", 9)], [("ann", "bob", 2)]])

    def test_wergilds_that_stand_and_fall(self):
        moot = court()
        moot.wergild("ann", "bob", 30, 5, 10, ["ann"], [])
        moot.wergild("cid", "bob", 4, 6, 10, ["ann"], ["fay"])
        self.assertEqual([moot.owed(4), moot.owed(5), moot.owed(9)], [[]] + [[("bob", "ann", 30)]] * 2)
        moot.accuse(1, "fay", 9, 1, ["gus"], [])
        self.assertEqual(moot.owed(9), [("bob", "ann", 30), ("bob", "cid", 4)])
        moot.accuse(0, "ann", 9, 1, ["gus"], [])
        self.assertEqual(moot.owed(9), [("bob", "cid", 4)])
        moot.accuse(3, "gus", 9, 1, ["hob"], [])
        self.assertEqual(moot.owed(9), [("bob", "ann", 30), ("bob", "cid", 4)])
        moot.pay("bob", "ann", 30, 7)
        self.assertEqual([moot.owed(6), moot.owed(7)], [
            [("bob", "ann", 30), ("bob", "cid", 4)], [("bob", "cid", 4)],
        ])

    def test_heirs_and_great_sums(self):
        moot = court()
        moot.pay("ann", "bob", 1000000, 5)
        moot.wergild("ann", "cid", 1000000, 5, 10, ["ann"], [])
        moot.die("bob", 6, "cid")
        self.assertEqual(moot.owed(6), [("cid", "ann", 2000000)])
        self.assertEqual([moot.balance(name, 6) for name in ("ann", "bob", "cid")], [2000000, 0, -2000000])
        moot.die("cid", 7, "ann")
        self.assertEqual(moot.owed(7), [])


class WhoIsForsworn(unittest.TestCase, Refusing):
    def sworn(self):
        moot = court()
        moot.wergild("cid", "dan", 1, 5, 1, ["ann"], ["bob"])
        return moot

    def forsworn(self, moot):
        return [name for name in moot.names() if moot.forsworn(name)]

    def assert_may_not_swear(self, moot, name):
        for ones, others in ((["gus", name], []), (["gus"], [name])):
            self.assert_refused(Forsworn, moot.claim, "cid", 0, 9, 1, ones, others)
            self.assert_refused(Forsworn, moot.wergild, "cid", "cid", 5, 9, 1, ones, others)
            self.assert_refused(Forsworn, moot.accuse, 0, "bob", 9, 1, ones, others)

    def test_nobody_at_first(self):
        self.assertEqual(self.forsworn(self.sworn()), [])

    def test_an_accusing_that_stands(self):
        for name in ("ann", "bob"):
            moot = self.sworn()
            moot.accuse(0, name, 5, 1, ["gus"], [])
            self.assertEqual(self.forsworn(moot), [name])
            self.assertIs(moot.forsworn(name), True)
            self.assertIs(moot.forsworn("gus"), False)
            self.assert_may_not_swear(moot, name)
            # All else but swearing is free.
            moot.claim(name, 0, 9, 1, ["gus"], [])
            moot.give(0, name, "cid", 9)
            moot.pay(name, "cid", 9, 9)

    def test_an_accusing_that_falls(self):
        moot = self.sworn()
        moot.accuse(0, "ann", 5, 1, ["gus"], ["hob"])
        self.assertEqual(moot.standing(), [True, False])
        self.assertEqual(self.forsworn(moot), [])
        moot.wergild("cid", "dan", 1, 5, 1, ["ann"], ["bob"])
        moot.accuse(1, "hob", 5, 1, ["cid"], [])
        self.assertEqual(self.forsworn(moot), ["ann", "hob"])
        self.assert_may_not_swear(moot, "ann")

    def test_an_accusing_that_is_turned(self):
        moot = self.sworn()
        moot.accuse(0, "ann", 5, 1, ["gus"], [])
        moot.accuse(1, "gus", 5, 1, ["hob"], [])
        self.assertEqual(self.forsworn(moot), ["gus"])
        moot.accuse(2, "hob", 5, 1, ["cid"], [])
        self.assertEqual(self.forsworn(moot), ["ann", "hob"])
        # Which accusings name gus or ann is open again: by what is known now gus may swear.
        moot.wergild("cid", "dan", 1, 5, 1, ["gus"], [])

    def test_ahead_of_and_behind_a_penance(self):
        moot = self.sworn()
        moot.accuse(0, "ann", 5, 1, ["gus"], [])
        moot.penance("bob")
        self.assertEqual(self.forsworn(moot), ["ann"])
        moot.penance("ann")
        self.assertEqual(self.forsworn(moot), [])
        self.assertEqual(moot.standing(), [False, True])
        self.assertEqual(moot.wergild("cid", "dan", 1, 5, 1, ["ann"], []), 2)
        self.assertEqual(self.forsworn(moot), [])
        moot.accuse(2, "ann", 5, 1, ["gus"], [])
        self.assertEqual(self.forsworn(moot), ["ann"])
        moot.penance("ann")
        moot.penance("ann")
        self.assertEqual(self.forsworn(moot), [])

    def test_a_penance_ahead_of_the_accusing(self):
        moot = self.sworn()
        moot.penance("ann")
        self.assertEqual(self.forsworn(moot), [])
        # It is the accusing that counts, not the oath: this oath was sworn ahead of the penance.
        moot.accuse(0, "ann", 5, 1, ["gus"], [])
        self.assertEqual(self.forsworn(moot), ["ann"])

    def test_an_accusing_ahead_of_the_penance_that_comes_to_stand_behind_it(self):
        moot = self.sworn()
        moot.accuse(0, "ann", 5, 1, ["gus"], ["hob"])
        moot.penance("ann")
        moot.accuse(1, "hob", 5, 1, ["cid"], [])
        self.assertEqual(moot.standing(), [False, True, True])
        self.assertEqual(self.forsworn(moot), ["hob"])

    def test_several_accusings_of_one_name(self):
        moot = self.sworn()
        moot.wergild("cid", "dan", 1, 5, 1, ["ann"], [])
        moot.accuse(0, "ann", 5, 1, ["gus"], [])
        moot.penance("ann")
        moot.accuse(1, "ann", 5, 1, ["eve"], [])
        self.assertEqual(self.forsworn(moot), ["ann"])
        moot.accuse(3, "eve", 5, 1, ["gus"], [])
        self.assertEqual(self.forsworn(moot), ["eve"])

    def test_days_do_not_count_for_it(self):
        moot = self.sworn()
        moot.accuse(0, "ann", 9999, 1, ["gus"], [])
        self.assert_refused(Forsworn, moot.wergild, "cid", "dan", 1, 0, 1, ["ann"], [])

    def test_a_forsworn_one_may_do_penance_on_his_own_only(self):
        moot = self.sworn()
        moot.accuse(0, "ann", 5, 1, ["gus"], [])
        moot.die("ann", 9, "bob")
        self.assert_refused(Dead, moot.penance, "ann")
        self.assertEqual(self.forsworn(moot), ["ann"])


class AgainstTheWords(unittest.TestCase):
    def test_made_moots(self):
        turned = 0
        for seed in range(40):
            moot, tried = made_moot(seed, 30 + seed % 4 * 15)
            slow = SlowMoot(moot.roll())
            self.assertEqual(all_told(moot, DAYS, leave=FREE), all_told(slow, DAYS, leave=FREE))
            turned += slow_standing(moot.suits()).count(False)
        self.assertGreater(turned, 100)

    def test_each_moment_of_some(self):
        for seed in range(40, 46):
            moot = Moot()
            slow = SlowMoot()
            for deed in made_moot(seed, 45)[0].roll():
                done(moot, deed)
                slow.told.append(deed)
                self.assertEqual(all_told(moot, (2, 9, 20), False, FREE), all_told(slow, (2, 9, 20), False, FREE))


class QuestionsOfCases(unittest.TestCase):
    def test_what_the_functions_tell_of_its_suits(self):
        for seed in range(15):
            moot, tried = made_moot(seed, 60)
            suits = moot.suits()
            self.assertEqual(moot.standing(), stands.settled(suits))
            for case, one_suit in enumerate(suits):
                self.assertIs(moot.stands(case), stands.settled(suits)[case])
                self.assertEqual(moot.margin(case), stands.margin(suits, case))
                self.assertEqual(moot.chain(case), stands.chain(suits, case))
                self.assertEqual(moot.bearing(case), stands.bearing(suits, case))
                self.assertEqual(moot.paper(case), papers.paper(suits, case))
                self.assertEqual(moot.fewest(case), turning.fewest(suits, case))
                self.assertTrue(papers.good_paper(suits, case, moot.stands(case), moot.paper(case)))
                for name in swearers(one_suit):
                    self.assertEqual(moot.breakers(case, name), stands.breakers(suits, case, name))

    def test_the_accusing_of_the_fewest_turns_a_case(self):
        longer = 0
        for seed in range(15):
            moot, tried = made_moot(seed, 55)
            moot.come("yan", 0, 9)
            standing = moot.standing()
            for case in range(moot.cases()):
                oaths = moot.fewest(case)
                self.assertTrue(oaths)
                other = moot.twin()
                for number, name in oaths:
                    other.accuse(number, name, 9999, 1, ["yan"], [])
                self.assertIs(other.stands(case), not standing[case])
                self.assertEqual(moot.standing(), standing)
                longer += len(oaths) > 1
        self.assertGreater(longer, 20)


class NewCase(unittest.TestCase):
    """[19] in a moot."""

    def on_which_hang(self, moot, changed):
        tried = [deed for deed in moot.roll() if deed[0] in TRIED]
        things = {tried[case][2] for case in changed if tried[case][0] == "claim"}
        return things, any(tried[case][0] == "wergild" for case in changed)

    def test_first_so_many_of_its_chain(self):
        many_changed = []
        stayed = 0
        for seed in range(30):
            before = Moot()
            for deed in made_moot(seed, 70)[0].roll():
                moot = before.twin()
                done(moot, deed)
                if deed[0] in TRIED:
                    case = moot.cases() - 1
                    changed = [old for old in range(case) if before.stands(old) != moot.stands(old)]
                    chain = moot.chain(case)
                    self.assertEqual(sorted(chain[:len(changed)]), changed)
                    many_changed.append(len(changed))
                    things, debts = self.on_which_hang(moot, changed + [case])
                    for thing in set(range(moot.things())) - things:
                        self.assertEqual(moot.road(thing, 30), before.road(thing, 30))
                        stayed += 1
                    if not debts:
                        for day in DAYS:
                            self.assertEqual(moot.owed(day), before.owed(day))
                else:
                    self.assertEqual(moot.standing(), before.standing())
                before = moot
        self.assertGreater(stayed, 500)
        for many in (0, 1, 2, 3):
            self.assertGreater(many_changed.count(many), 3, many)

    def test_a_line_that_turns_whole(self):
        moot = court()
        moot.claim("cid", 0, 5, 1, ["gus"], [])
        swearing = ["gus", "hob"]
        for case in range(1, 30):
            # Each swearer is freed by the turning of the accusing that named him, two cases on.
            moot.penance("gus")
            moot.penance("hob")
            moot.accuse(case - 1, swearing[(case - 1) % 2], 5, 1, [swearing[case % 2]], [])
            self.assertEqual(moot.standing(), [(case - old) % 2 == 0 for old in range(case + 1)])
            self.assertEqual(moot.holder(0, 9), "cid" if case % 2 == 0 else "ann")
            self.assertEqual(moot.chain(case), list(range(case - 1, -1, -1)))


class Untouched(unittest.TestCase):
    def test_what_is_handed_in_stays(self):
        moot = Moot()
        for deed in one_of_each():
            before = deep(deed)
            done(moot, deed)
            self.assertEqual(deep(deed), before)
        for refusing in (("claim", "ann", 0, 9, 12001, ["bob"], ["ann"]), ("accuse", 0, "ann", 9, 2, ["bob"], ["bob"]),
                         ("wergild", "ann", "bob", 9, 9, 900, ["bob"], [])):
            before = deep(refusing)
            with self.assertRaises(MootError):
                done(moot, refusing)
            self.assertEqual(deep(refusing), before)

    def test_handed_lists_that_are_changed_afterwards(self):
        moot = Moot()
        for deed in one_of_each():
            done(moot, deed)
            for part in [part for part in deed if isinstance(part, list)]:
                part.append("zoe")
                part.reverse()
        self.assertEqual(moot.roll(), one_of_each())
        self.assertEqual(all_told(moot, DAYS), all_told(moot_of(one_of_each()), DAYS))
        self.assertEqual(all_told(moot.twin(), DAYS), all_told(moot_of(one_of_each()), DAYS))

    def change(self, told):
        """Changes every list in what was told, the inner ones too."""
        if isinstance(told, (list, tuple)):
            for part in told:
                self.change(part)
        if isinstance(told, list):
            told.append("changed")
            told.reverse()

    def test_told_lists_that_are_changed_afterwards(self):
        for seed in range(3):
            moot, tried = made_moot(seed, 45)
            before = deep(all_told(moot, DAYS))
            for asked, told in all_told(moot, DAYS):
                self.change(told)
            self.assertEqual(deep(all_told(moot, DAYS)), before)
            self.assertEqual(deep(all_told(moot.twin(), DAYS)), before)
            moot.come("yan", 0, 9)
            self.assertEqual(moot.now(), 46)

    def test_no_two_told_lists_are_one(self):
        moot = moot_of(one_of_each())
        self.assertIsNot(moot.suits()[0][0], moot.suits()[0][0])
        self.assertIsNot(moot.roll()[8][5], moot.roll()[8][5])
        for question in (moot.roll, moot.names, moot.suits, moot.standing):
            self.assertIsNot(question(), question())

    def test_questions_change_nothing(self):
        moot = moot_of(one_of_each())
        fresh = deep(all_told(moot_of(one_of_each()), DAYS))
        for turn in range(3):
            self.assertEqual(deep(all_told(moot, DAYS)), fresh)
