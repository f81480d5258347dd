"""forsworn.turning: [9], of [1] and [4] what touches turning, of [17] NoCase."""

import itertools
import random
import time
import unittest

from forsworn.errors import NoCase
from forsworn.stands import settled, settled_with
from forsworn.turning import fewest
from tests.helper import (
    LETTERS, Refusing, all_oaths, deep, least_cost_by_row, line_of_suits, made_suits, slow_margin, suit,
)

FAR = 10 ** 18 - 1


def turns(suits, case, oaths):
    return settled_with(suits, oaths)[case] != settled(suits)[case]


def fewest_of_all_lists(suits, case):
    """How many oaths turn the case at least, by trying all lists of oaths of all cases."""
    oaths = all_oaths(suits)
    for many in range(len(oaths) + 1):
        if any(turns(suits, case, list(some)) for some in itertools.combinations(oaths, many)):
            return many
    return None


def fewest_by_row(suits, case):
    """The same for many oaths: a row of costs by weight, case by case behind it; case is one that can be turned."""
    standing = settled(suits)
    costs = {}
    for later in range(len(suits) - 1, case - 1, -1):
        if standing[later] or later == case:
            costs[later] = cost_of_turning(suits, standing, costs, later)
    return costs[case]


def heavy_suits(seed, many, side, weight):
    """Suits of which each names the heaviest oath of one a little ahead of it, and few needs are out of reach."""
    chance = random.Random(seed)
    suits = []
    for case in range(many):
        names = chance.sample(LETTERS, 2 * side)
        ones = [(name, chance.randint(1, weight)) for name in names[:chance.randint(1, side)]]
        others = [(name, chance.randint(1, weight)) for name in names[side:side + chance.randint(0, side)]]
        named = None
        if case:
            ahead = max(0, case - chance.choice((1, 1, 2, 3)))
            heaviest = max(suits[ahead][0] + suits[ahead][1], key=lambda oath: oath[1])
            named = (ahead, heaviest[0])
        reach = sum(heavy for name, heavy in ones)
        suits.append(suit(ones, others, chance.randint(1, reach), named))
    return suits


def cost_of_turning(suits, standing, costs, case):
    lead = slow_margin(suits, standing, [], case)
    for_it, against_it = (suits[case][0], suits[case][1]) if lead >= 0 else (suits[case][1], suits[case][0])
    offers = []
    for name, weight in for_it + against_it:
        breakers = [later for later in range(len(suits)) if standing[later] and suits[later][3] == (case, name)]
        if not breakers and (name, weight) in for_it:
            offers.append((1, weight))
        elif breakers and (name, weight) in against_it:
            offers.append((sum(costs[later] for later in breakers), weight))
    return least_cost_by_row(offers, lead + 1 if lead >= 0 else -lead)


class Fewest(unittest.TestCase, Refusing):
    def assert_turns(self, suits, case):
        """What is told is a list that turns the case and no oath of which can be spared; or None, where none does."""
        told = fewest(suits, case)
        ones, others, need, named = suits[case]
        if sum(weight for name, weight in ones) < need:
            self.assertIsNone(told)
            self.assertFalse(settled(suits)[case])
            return None
        self.assertIs(type(told), list)
        self.assertTrue(told)
        self.assertTrue(all(type(oath) is tuple for oath in told))
        self.assertEqual(told, sorted(set(told)))
        self.assertLessEqual(set(told), set(all_oaths(suits)))
        self.assertTrue(turns(suits, case, told), (suits, case, told))
        for oath in told:
            self.assertFalse(turns(suits, case, [other for other in told if other != oath]), (suits, case, told))
        return told

    def test_a_case_alone_that_stands(self):
        one = [suit([("ann", 6), ("bob", 2), ("cid", 1)], [("dan", 3)], 4)]
        self.assertEqual(self.assert_turns(one, 0), [(0, "ann")])
        one = [suit([("ann", 6), ("bob", 2)], [], 2)]
        self.assertEqual(self.assert_turns(one, 0), [(0, "ann"), (0, "bob")])
        # Nought still stands: a margin of 2 wants more than 2.
        one = [suit([("bob", 2), ("ann", 3)], [], 3)]
        self.assertEqual(self.assert_turns(one, 0), [(0, "ann")])
        one = [suit([("bob", 2), ("ann", 2)], [], 2)]
        self.assertEqual(self.assert_turns(one, 0), [(0, "ann"), (0, "bob")])

    def test_a_case_alone_that_falls(self):
        one = [suit([("ann", 6)], [("bob", 2), ("cid", 5)], 4)]
        self.assertEqual(self.assert_turns(one, 0), [(0, "cid")])
        one = [suit([("ann", 6)], [("bob", 2), ("cid", 5)], 6)]
        self.assertEqual(self.assert_turns(one, 0), [(0, "bob"), (0, "cid")])

    def test_no_list_turns_it(self):
        for one in (suit([], [], 1), suit([("ann", 5)], [], 6), suit([("ann", 5)], [("bob", 9)], 6),
                    suit([], [("bob", 1)], 1)):
            self.assertIsNone(fewest([one], 0))
        suits = [suit([("ann", 5)], [], 6), suit([("bob", 1)], [], 1, (0, "ann"))]
        self.assertIsNone(fewest(suits, 0))
        self.assertEqual(fewest(suits, 1), [(1, "bob")])
        # Just as heavy as the need, it can be turned.
        suits = [suit([("ann", 6)], [], 6), suit([("bob", 1)], [], 1, (0, "ann"))]
        self.assertEqual(self.assert_turns(suits, 0), [(1, "bob")])

    def test_an_oath_gets_kept_again(self):
        # Both breakers of ann's oath must fall, the one that falls already is left alone.
        suits = [
            suit([("ann", 6)], [], 6),
            suit([("bob", 1)], [], 1, (0, "ann")),
            suit([("bob", 1)], [], 2, (0, "ann")),
            suit([("cid", 1), ("dan", 1)], [], 1, (0, "ann")),
        ]
        self.assertEqual(self.assert_turns(suits, 0), [(1, "bob"), (3, "cid"), (3, "dan")])

    def test_an_oath_against_gets_kept_again(self):
        # dan's single oath outweighs the four ones that would have to be broken.
        ones = [("ann", 3), ("bob", 3), ("cid", 3), ("eve", 3)]
        suits = [suit(ones, [("dan", 12)], 1), suit([("fay", 1)], [], 1, (0, "dan"))]
        self.assertEqual(settled(suits), [True, True])
        self.assertEqual(self.assert_turns(suits, 0), [(1, "fay")])

    def test_the_cheaper_of_two_ways(self):
        for many in (1, 2, 3, 4):
            breaker = suit([(name, 1) for name in ("gus", "hob", "ida", "jon")[:many]], [], 1, (0, "ann"))
            suits = [suit([("ann", 11), ("bob", 6)], [("cid", 4), ("dan", 4), ("eve", 4)], 5), breaker]
            self.assertEqual(settled(suits), [False, True])
            told = self.assert_turns(suits, 0)
            self.assertEqual(len(told), min(many, 3))
            if many != 3:
                self.assertEqual({case for case, name in told}, {1} if many < 3 else {0})

    def test_a_breaker_of_a_breaker(self):
        suits = [
            suit([("ann", 5)], [], 5),
            suit([("bob", 1), ("cid", 2)], [("dan", 9)], 1, (0, "ann")),
            suit([("eve", 1)], [], 1, (1, "dan")),
        ]
        self.assertEqual(settled(suits), [False, True, True])
        # dan's oath, kept again, does it through a single breaking in the last case.
        self.assertEqual(self.assert_turns(suits, 0), [(2, "eve")])

    def test_a_line(self):
        suits = [suit([("ann", 1)], [], 1)]
        suits += [suit([("ann", 1)], [], 1, (case - 1, "ann")) for case in range(1, 60)]
        for case in range(60):
            self.assertEqual(len(self.assert_turns(suits, case)), 1)

    def test_costs_heap_up_behind_a_case(self):
        # To keep ann's oath again each of nine breakers must fall, each by three breakings.
        suits = [suit([("ann", 1)], [], 1)]
        three = [("bob", 1), ("cid", 1), ("dan", 1)]
        suits += [suit(three, [], 1, (0, "ann")) for turn in range(9)]
        self.assertEqual(len(self.assert_turns(suits, 0)), 27)

    def test_small_suits_against_all_lists(self):
        seen = []
        for seed in range(150):
            suits = made_suits(seed, 2 + seed % 4, side=2, weight=4, need=5, naming=0.95)
            if len(all_oaths(suits)) <= 12:
                for case in range(len(suits)):
                    told = self.assert_turns(suits, case)
                    self.assertEqual(None if told is None else len(told), fewest_of_all_lists(suits, case))
                    seen.append((settled(suits)[case], 0 if told is None else len(told)))
        for kind in ((True, 1), (True, 2), (False, 0), (False, 1), (False, 2)):
            self.assertGreater(seen.count(kind), 5, kind)

    def test_heavy_suits_against_all_lists(self):
        far = 0
        for seed in range(150):
            suits = heavy_suits(seed, 3 + seed % 3, 3, 9)
            if len(all_oaths(suits)) <= 13:
                for case in range(len(suits)):
                    told = self.assert_turns(suits, case)
                    self.assertEqual(len(told), fewest_of_all_lists(suits, case))
                    far += any(number != case for number, name in told)
        self.assertGreater(far, 20)

    def test_heavy_suits_against_a_row(self):
        far = 0
        for seed in range(40):
            suits = heavy_suits(seed, 25, 3 + seed % 8, 30)
            for case in range(25):
                told = self.assert_turns(suits, case)
                self.assertEqual(len(told), fewest_by_row(suits, case))
                far += len({number for number, name in told}) > 1
        self.assertGreater(far, 20)

    def test_many_suits_against_a_row(self):
        for seed in range(25):
            suits = made_suits(seed, 25, side=5, weight=30, need=40, naming=0.95)
            for case in range(25):
                told = self.assert_turns(suits, case)
                if told is not None:
                    self.assertEqual(len(told), fewest_by_row(suits, case))

    def test_sixty_suits_with_twenty_four_oaths_soon(self):
        moots = [line_of_suits(seed, 60, 12) for seed in range(4)]
        begun = time.perf_counter()
        for suits in moots:
            for case in range(0, 60, 6):
                fewest(suits, case)
        self.assertLess(time.perf_counter() - begun, 20)
        for suits in moots:
            for case in (0, 1, 17, 59):
                told = self.assert_turns(suits, case)
                if told is not None:
                    self.assertEqual(len(told), fewest_by_row(suits, case))

    def test_all_broken_through_dear_cases_soon(self):
        # Every oath for case 0 is broken by cases that take all their twelve oaths to fall.
        names = ["a", "b", "c", "d", "e", "f", "g", "h", "i", "j", "k", "l"]
        ones = [(name, 900 + place) for place, name in enumerate(names)]
        others = [("z" + name, 1000 - place) for place, name in enumerate(names)]
        suits = [suit(ones, others, 400)]
        suits += [suit([(name, 1) for name in names], [], 1, (0, names[case % 12])) for case in range(1, 60)]
        begun = time.perf_counter()
        told = self.assert_turns(suits, 0)
        self.assertLess(time.perf_counter() - begun, 20)
        self.assertEqual(len(told), fewest_by_row(suits, 0))
        suits[0] = suit(ones, [], sum(weight for name, weight in ones))
        self.assertEqual(len(self.assert_turns(suits, 0)), 59 * 12)

    def test_somewhat_beyond_the_bounds(self):
        suits = line_of_suits(5, 66, 13, weight=1200)
        for case in (0, 1, 40, 65):
            told = self.assert_turns(suits, case)
            if told is not None:
                self.assertEqual(len(told), fewest_by_row(suits, case))

    def test_a_need_of_nought_or_less(self):
        # Nothing makes the second case fall: it has no oath for it that could be broken.
        for need in (0, -1, -2):
            suits = [suit([("ann", 5)], [("bob", 2)], 2), suit([], [], need, (0, "ann"))]
            self.assertEqual(settled(suits), [False, True])
            self.assertEqual([fewest(suits, case) for case in (0, 1)], [None, None])
            suits = [suit([("ann", 5), ("cid", 2)], [("bob", 2)], 2), suit([], [], need, (0, "ann"))]
            self.assertEqual([fewest(suits, case) for case in (0, 1)], [[(0, "bob")], None])
            suits = [suit([("ann", 2)], [("bob", 9)], 2), suit([], [], need, (0, "bob"))]
            self.assertEqual([fewest(suits, case) for case in (0, 1)], [[(0, "ann")], None])

    def test_needs_of_nought_against_all_lists(self):
        none = 0
        for seed in range(150):
            chance = random.Random(seed)
            suits = made_suits(seed, 2 + seed % 4, side=2, weight=4, need=5, naming=0.95)
            suits = [(ones, others, chance.choice((need, 0, -1)), named) for ones, others, need, named in suits]
            if len(all_oaths(suits)) <= 12:
                for case in range(len(suits)):
                    told = fewest(suits, case)
                    self.assertEqual(None if told is None else len(told), fewest_of_all_lists(suits, case))
                    self.assertTrue(told is None or turns(suits, case, told))
                    none += told is None
        self.assertGreater(none, 20)

    def test_a_case_that_is_not_there(self):
        for suits in ([], [suit([], [], 1)], line_of_suits(1, 60, 12)):
            for case in (-1, -2, -len(suits), -FAR, len(suits), len(suits) + 1, FAR):
                if case not in range(len(suits)):
                    self.assert_refused(NoCase, fewest, suits, case)


class Untouched(unittest.TestCase):
    def test_what_is_handed_in_stays(self):
        for seed in range(20):
            suits = made_suits(seed, 9)
            before = deep(suits)
            for case in range(9):
                fewest(suits, case)
            self.assertEqual(deep(suits), before)

    def test_told_lists_are_new(self):
        for seed in range(20):
            suits = made_suits(seed, 9)
            for case in range(9):
                told = fewest(suits, case)
                if told is not None:
                    kept = deep(told)
                    told.append("changed")
                    told.reverse()
                    self.assertEqual(deep(fewest(suits, case)), kept)

    def test_suits_changed_afterwards(self):
        suits = [suit([("ann", 5)], [], 5)]
        told = fewest(suits, 0)
        suits[0][0].append(("bob", 5))
        self.assertEqual(told, [(0, "ann")])
        self.assertEqual(fewest(suits, 0), [(0, "ann"), (0, "bob")])
