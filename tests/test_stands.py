"""forsworn.stands: [1], [3], [4], [5], [19] and the interface; of [17] NoCase and NoOath."""

import random
import unittest

from forsworn.errors import NoCase, NoOath
from forsworn.stands import bearing, breakers, broken, chain, margin, settled, settled_with
from tests.helper import (
    LETTERS, Refusing, all_oaths, deep, is_broken, made_suits, slow_chain, slow_margin, some_oaths, suit, swearers,
    ways,
)

FAR = 10 ** 18 - 1

# Case 1 breaks an oath for case 0, and case 2 breaks one for case 1.
LINE = [
    suit([("ann", 5), ("bob", 4)], [("cid", 1)], 6),
    suit([("dan", 3)], [], 3, (0, "ann")),
    suit([("eve", 2)], [("fay", 1)], 1, (1, "dan")),
]
# Cases 1 to 3 name one oath; 2 falls.
STAR = [
    suit([("bob", 3), ("ann", 5)], [("cid", 7)], 1),
    suit([("dan", 3)], [], 3, (0, "cid")),
    suit([("dan", 3)], [], 4, (0, "cid")),
    suit([("eve", 3)], [("dan", 1)], 2, (0, "cid")),
]


def sixty(seed):
    return made_suits(seed, 60, side=12, weight=1000, need=3000)


class Settled(unittest.TestCase):
    def test_no_suits(self):
        self.assertEqual(settled([]), [])
        self.assertEqual(settled_with([], []), [])
        self.assertEqual(broken([]), [])

    def test_a_suit_alone(self):
        for need, told in ((4, True), (5, True), (6, False), (12000, False)):
            one = [suit([("ann", 6), ("bob", 2)], [("cid", 3)], need)]
            self.assertEqual(settled(one), [told])
            self.assertIs(settled(one)[0], told)
            self.assertEqual(margin(one, 0), 5 - need)

    def test_empty_sides(self):
        suits = [suit([], [], 1), suit([], [("ann", 4)], 1), suit([("ann", 4)], [], 4), suit([("ann", 4)], [], 5)]
        self.assertEqual(settled(suits), [False, False, True, False])
        self.assertEqual([margin(suits, case) for case in range(4)], [-1, -5, 0, -1])

    def test_an_oath_for_is_broken(self):
        suits = [suit([("ann", 5), ("bob", 4)], [], 5), suit([("cid", 1)], [], 1, (0, "ann"))]
        self.assertEqual(settled(suits), [False, True])
        self.assertEqual(margin(suits, 0), -1)
        self.assertEqual(settled(suits[:1]), [True])

    def test_an_oath_against_is_broken(self):
        suits = [suit([("ann", 5)], [("bob", 4)], 5), suit([("cid", 1)], [], 1, (0, "bob"))]
        self.assertEqual(settled(suits), [True, True])
        self.assertEqual(margin(suits, 0), 0)
        self.assertEqual(settled(suits[:1]), [False])

    def test_a_case_that_falls_breaks_nothing(self):
        suits = [suit([("ann", 5)], [], 5), suit([("cid", 1)], [], 2, (0, "ann"))]
        self.assertEqual(settled(suits), [True, False])
        self.assertEqual(broken(suits), [])
        self.assertEqual(breakers(suits, 0, "ann"), [])

    def test_a_breaker_that_is_broken(self):
        self.assertEqual(settled(LINE[:1]), [True])
        self.assertEqual(settled(LINE[:2]), [False, True])
        self.assertEqual(settled(LINE), [True, False, True])
        self.assertEqual([margin(LINE, case) for case in range(3)], [2, -3, 0])

    def test_several_name_the_same_oath(self):
        self.assertEqual(settled(STAR), [True, True, False, True])
        self.assertEqual(margin(STAR, 0), 7)
        self.assertEqual(settled(STAR[:1]), [True])
        self.assertEqual(margin(STAR[:1], 0), 0)

    def test_the_same_name_in_another_case_is_another_oath(self):
        suits = [
            suit([("ann", 5)], [], 5),
            suit([("ann", 5)], [], 5),
            suit([("ann", 5)], [], 5, (1, "ann")),
        ]
        self.assertEqual(settled(suits), [True, False, True])
        self.assertEqual(broken(suits), [(1, "ann")])

    def test_a_line_of_sixty(self):
        suits = [suit([("ann", 1)], [], 1)]
        suits += [suit([("ann", 1)], [], 1, (case - 1, "ann")) for case in range(1, 60)]
        self.assertEqual(settled(suits), [False, True] * 30)
        self.assertEqual(settled(suits[:59]), [True, False] * 29 + [True])

    def test_lines_beyond_the_bounds(self):
        suits = [suit([("ann", 1)], [], 1)]
        suits += [suit([("ann", 1)], [], 1, (case - 1, "ann")) for case in range(1, 70)]
        self.assertEqual(settled(suits), [False, True] * 35)
        wide = [suit([(letter, 1200) for letter in LETTERS[:14]], [], 13 * 1200), suit([("ann", 1)], [], 1, (0, "a"))]
        self.assertEqual(settled(wide), [True, True])

    def test_the_one_way_of_small_moots(self):
        seen = []
        for seed in range(150):
            suits = made_suits(seed, seed % 8)
            told = settled(suits)
            self.assertEqual(ways(suits, []), [told])
            seen += told
        self.assertGreater(seen.count(True), 100)
        self.assertGreater(seen.count(False), 100)

    def test_sixty_suits_keep_to_the_words(self):
        for seed in range(12):
            suits = sixty(seed)
            told = settled(suits)
            self.assertEqual(len(told), 60)
            for case in range(60):
                self.assertIs(told[case], slow_margin(suits, told, [], case) >= 0)
                self.assertIs(told[case], margin(suits, case) >= 0)


class SettledWith(unittest.TestCase):
    def test_no_oaths_by_hand(self):
        for seed in range(30):
            suits = made_suits(seed, 20)
            self.assertEqual(settled_with(suits, []), settled(suits))

    def test_some_by_hand(self):
        self.assertEqual(settled_with(LINE, [(2, "eve")]), [False, True, False])
        self.assertEqual(settled_with(LINE, [(2, "fay")]), [True, False, True])
        self.assertEqual(settled_with(LINE, [(2, "eve"), (1, "dan")]), [True, False, False])
        self.assertEqual(settled_with(LINE, [(0, "bob")]), [False, False, True])
        self.assertEqual(settled_with(LINE[:1], [(0, "ann"), (0, "bob")]), [False])
        one = [suit([("ann", 2)], [("bob", 2)], 2)]
        self.assertEqual(settled_with(one, [(0, "bob")]), [True])
        self.assertEqual(settled_with(one, [(0, "bob"), (0, "ann")]), [False])

    def test_twice_and_in_any_order(self):
        more = [(1, "dan"), (0, "cid"), (2, "eve")]
        told = settled_with(LINE, more)
        self.assertEqual(settled_with(LINE, more[::-1]), told)
        self.assertEqual(settled_with(LINE, more + more), told)
        self.assertEqual(settled_with(LINE, [(0, "bob"), (0, "bob")]), [False, False, True])
        chance = random.Random(2)
        for seed in range(20):
            suits = made_suits(seed, 25)
            some = some_oaths(seed, suits)
            mixed = some + some
            chance.shuffle(mixed)
            self.assertEqual(settled_with(suits, mixed), settled_with(suits, some))

    def test_the_one_way_of_small_moots(self):
        turned = 0
        for seed in range(150):
            suits = made_suits(seed, seed % 8)
            more = some_oaths(seed, suits)
            told = settled_with(suits, more)
            self.assertEqual(ways(suits, more), [told])
            turned += told != settled(suits)
        self.assertGreater(turned, 20)

    def test_all_oaths_broken(self):
        for seed in range(5):
            suits = sixty(seed)
            self.assertEqual(settled_with(suits, all_oaths(suits)), [False] * 60)


class MarginBrokenBreakers(unittest.TestCase):
    def test_broken(self):
        self.assertEqual(broken(LINE), [(1, "dan")])
        self.assertEqual(broken(LINE[:2]), [(0, "ann")])
        self.assertEqual(broken(LINE[:1]), [])
        self.assertEqual(broken(STAR), [(0, "cid")])

    def test_broken_rises_by_number_and_then_by_name(self):
        suits = [suit([("b", 1), ("a", 1), ("ab", 1)], [], 1)] + [suit([("ann", 1)], [], 1) for case in range(11)]
        named = ((10, "ann"), (0, "b"), (2, "ann"), (0, "ab"), (0, "a"))
        suits += [suit([("ann", 1)], [], 1, oath) for oath in named]
        self.assertEqual(broken(suits), [(0, "a"), (0, "ab"), (0, "b"), (2, "ann"), (10, "ann")])

    def test_breakers(self):
        self.assertEqual(breakers(STAR, 0, "cid"), [1, 3])
        self.assertEqual(breakers(STAR, 0, "ann"), [])
        self.assertEqual(breakers(STAR, 3, "dan"), [])
        self.assertEqual(breakers(LINE, 0, "ann"), [])
        self.assertEqual(breakers(LINE, 1, "dan"), [2])

    def test_against_the_words(self):
        for seed in range(40):
            suits = made_suits(seed, 30)
            told = settled(suits)
            oaths = all_oaths(suits)
            self.assertEqual(broken(suits), sorted(oath for oath in oaths if is_broken(suits, told, [], *oath)))
            for case in range(30):
                self.assertEqual(margin(suits, case), slow_margin(suits, told, [], case))
            for case, name in oaths:
                named = [later for later in range(30) if told[later] and suits[later][3] == (case, name)]
                self.assertEqual(breakers(suits, case, name), named)

    def test_kinds(self):
        for oath in broken(STAR) + broken(LINE):
            self.assertIs(type(oath), tuple)
        self.assertIs(type(broken(STAR)), list)
        self.assertIs(type(breakers(STAR, 0, "cid")), list)
        self.assertIs(type(margin(STAR, 0)), int)


class ChainAndBearing(unittest.TestCase):
    def test_a_case_that_names_nothing(self):
        self.assertEqual(chain(LINE, 0), [])
        self.assertEqual(chain([suit([], [], 1)], 0), [])
        self.assertEqual(bearing([suit([], [], 1)], 0), [])

    def test_a_line(self):
        self.assertEqual([chain(LINE, case) for case in range(3)], [[], [0], [1, 0]])
        self.assertEqual([bearing(LINE, case) for case in range(3)], [[1, 2], [2], []])

    def test_a_long_line(self):
        suits = [suit([("ann", 1)], [], 1)]
        suits += [suit([("ann", 1)], [], 1, (case - 1, "ann")) for case in range(1, 60)]
        for case in range(60):
            self.assertEqual(chain(suits, case), list(range(case - 1, -1, -1)))
            self.assertEqual(bearing(suits, case), list(range(case + 1, 60)))

    def test_several_that_name_one(self):
        self.assertEqual([chain(STAR, case) for case in range(4)], [[], [0], [0], [0]])
        self.assertEqual([bearing(STAR, case) for case in range(4)], [[1, 2, 3], [], [], []])

    def test_falling_cases_bear_as_well(self):
        self.assertEqual(settled(STAR)[2], False)
        self.assertIn(2, bearing(STAR, 0))

    def test_against_the_words(self):
        for seed in range(40):
            suits = made_suits(seed, 30)
            chains = [slow_chain(suits, case) for case in range(30)]
            for case in range(30):
                self.assertEqual(chain(suits, case), chains[case])
                self.assertEqual(bearing(suits, case), [later for later in range(30) if case in chains[later]])


class NewCase(unittest.TestCase):
    def changed(self, suits):
        before = settled(suits[:-1])
        now = settled(suits)
        return [case for case in range(len(before)) if before[case] != now[case]]

    def test_first_so_many_of_its_chain(self):
        lengths = []
        for side, weight, need in ((1, 1, 1), (2, 2, 1), (3, 4, 1), (2, 3, 3)):
            for seed in range(400):
                suits = made_suits(seed, 2 + seed % 30, side, weight, need, naming=0.95)
                changed = self.changed(suits)
                self.assertEqual(changed, sorted(chain(suits, len(suits) - 1)[:len(changed)]))
                lengths.append(len(changed))
        # Light sides turn now and then; without turns the loop above would hold nothing.
        for length in range(5):
            self.assertIn(length, lengths)

    def test_a_line_that_turns_whole(self):
        self.assertEqual(self.changed(LINE), [0, 1])
        self.assertEqual(self.changed(LINE[:2]), [0])

    def test_the_first_that_stays_shields_those_behind(self):
        strong = suit([("dan", 3), ("gus", 3)], [], 3, (0, "ann"))
        self.assertEqual(self.changed([LINE[0], strong, LINE[2]]), [])

    def test_a_new_case_that_falls_or_names_nothing(self):
        self.assertEqual(self.changed(LINE[:2] + [suit([("eve", 2)], [], 3, (1, "dan"))]), [])
        self.assertEqual(self.changed(LINE + [suit([("eve", 2)], [], 1)]), [])


class Refused(unittest.TestCase, Refusing):
    def test_no_case(self):
        for suits in ([], LINE, STAR):
            for case in (-1, -2, -len(suits) - 1, -FAR, len(suits), len(suits) + 1, FAR):
                for call in (margin, chain, bearing):
                    self.assert_refused(NoCase, call, suits, case)
                self.assert_refused(NoCase, breakers, suits, case, "ann")

    def test_no_oath(self):
        for name in ("dan", "zoe", "", "Ann", "ann ", "an"):
            self.assert_refused(NoOath, breakers, LINE, 0, name)
        self.assert_refused(NoOath, breakers, LINE, 1, "ann")
        self.assert_refused(NoOath, breakers, [suit([], [], 1)], 0, "ann")

    def test_each_swearer_is_taken(self):
        for case, one_suit in enumerate(LINE):
            for name in swearers(one_suit):
                self.assertIsInstance(breakers(LINE, case, name), list)

    def test_no_case_ahead_of_no_oath(self):
        for case in (-1, 3, FAR, -FAR):
            self.assert_refused(NoCase, breakers, LINE, case, "nobody")


class Untouched(unittest.TestCase):
    def calls(self):
        return [
            (settled, ()), (settled_with, ([(0, "ann")],)), (settled_with, ([],)), (broken, ()), (margin, (0,)),
            (breakers, (0, "ann")), (breakers, (1, "dan")), (chain, (2,)), (chain, (0,)),
            (bearing, (0,)), (bearing, (2,)),
        ]

    def test_what_is_handed_in_stays(self):
        for call, rest in self.calls():
            before = deep((LINE, rest))
            call(LINE, *rest)
            self.assertEqual(deep((LINE, rest)), before)

    def test_what_a_refused_call_is_handed_stays(self):
        before = deep(LINE)
        for call, rest in ((margin, (3,)), (chain, (-1,)), (bearing, (3,)), (breakers, (0, "zoe"))):
            with self.assertRaises(ValueError):
                call(LINE, *rest)
        self.assertEqual(deep(LINE), before)

    def test_told_lists_are_new(self):
        for call, rest in self.calls():
            told = call(LINE, *rest)
            if isinstance(told, list):
                kept = list(told)
                told.append("changed")
                told.reverse()
                self.assertEqual(call(LINE, *rest), kept)

    def test_nothing_of_an_earlier_call_is_kept(self):
        suits = [suit([("ann", 5)], [("bob", 1)], 4)]
        more = [(0, "bob")]
        self.assertEqual((settled(suits), margin(suits, 0)), ([True], 0))
        self.assertEqual(settled_with(suits, more), [True])
        suits[0][1].append(("cid", 1))
        more.append((0, "ann"))
        self.assertEqual((settled(suits), margin(suits, 0)), ([False], -1))
        self.assertEqual(settled_with(suits, more), [False])
