"""forsworn.oaths: [1], [2], [3] and the interface."""

import itertools
import random
import time
import unittest

from forsworn.oaths import cheapest, fewest_to, heaviest, is_name, total
from tests.helper import LETTERS, deep, least_cost, least_cost_by_row

TWELVE = [(LETTERS[place], weight) for place, weight in enumerate([7, 1, 1000, 7, 30, 2, 999, 8, 30, 1, 500, 64])]
FAR_BELOW = -10 ** 18 + 1
FAR_BEYOND = 10 ** 18 - 1


def made_side(chance, many, weight):
    return [(LETTERS[place], chance.randint(1, weight)) for place in range(many)]


def made_offers(chance, many, cost, gain):
    return [(chance.randint(1, cost), chance.randint(1, gain)) for place in range(many)]


class IsName(unittest.TestCase):
    def test_names(self):
        for text in ("a", "z", "ann", "abcdefghijkl", "mnopqrstuvwx", "zzzzzzzzzzzz", "yz"):
            self.assertIs(is_name(text), True, text)

    def test_lengths(self):
        for many in range(0, 30):
            self.assertIs(is_name("q" * many), 1 <= many <= 12, many)
        self.assertIs(is_name("abcdefghijklm"), False)
        self.assertIs(is_name(""), False)

    def test_each_sign_at_each_place(self):
        signs = [chr(code) for code in range(32, 127)]
        for sign in signs:
            good = sign in LETTERS
            for text in (sign, sign + "ann", "an" + sign + "n", "ann" + sign, sign + "a" * 11, "a" * 11 + sign):
                self.assertIs(is_name(text), good, text)

    def test_letters_of_other_scripts_and_row_ends_are_none(self):
        for text in ("\u00e9", "ann\u00e9", "\u00df", "ann\n", "\nann", "\u0430"):
            self.assertIs(is_name(text), False, text)


class Weights(unittest.TestCase):
    def test_empty_side(self):
        self.assertEqual(total([]), 0)
        for many in (0, 1, 12, FAR_BEYOND):
            self.assertEqual(heaviest([], many), 0)

    def test_one_oath(self):
        self.assertEqual(total([("ann", 5)]), 5)
        self.assertEqual([heaviest([("ann", 5)], many) for many in (0, 1, 2)], [0, 5, 5])

    def test_twelve_oaths(self):
        self.assertEqual(total(TWELVE), 2649)
        told = [heaviest(TWELVE, many) for many in range(14)]
        self.assertEqual(told, [0, 1000, 1999, 2499, 2563, 2593, 2623, 2631, 2638, 2645, 2647, 2648, 2649, 2649])
        self.assertEqual(heaviest(TWELVE, FAR_BEYOND), 2649)

    def test_a_side_somewhat_beyond_the_bounds(self):
        side = [(LETTERS[place], 1100 + place) for place in range(14)]
        self.assertEqual(total(side), 14 * 1100 + 91)
        self.assertEqual(heaviest(side, 2), 1113 + 1112)
        self.assertEqual(heaviest(side, -1), 0)

    def test_heaviest_against_all_lists(self):
        chance = random.Random(3)
        for turn in range(60):
            side = made_side(chance, chance.randint(0, 7), 9)
            for many in range(len(side) + 1):
                lists = itertools.combinations(side, many)
                self.assertEqual(heaviest(side, many), max(sum(weight for name, weight in some) for some in lists))


class FewestTo(unittest.TestCase):
    def assert_fewest(self, side, goal):
        told = fewest_to(side, goal)
        weights = dict(side)
        if goal < 1:
            self.assertEqual(told, [])
        elif sum(weights.values()) < goal:
            self.assertIsNone(told)
        else:
            self.assertIsInstance(told, list)
            self.assertEqual(len(set(told)), len(told))
            self.assertGreaterEqual(sum(weights[name] for name in told), goal)
            fewer = sorted(weights.values(), reverse=True)[:len(told) - 1]
            self.assertLess(sum(fewer), goal)

    def test_a_goal_below_one(self):
        for side in ([], [("ann", 1)], TWELVE):
            for goal in (0, -1, -5000, FAR_BELOW):
                self.assertEqual(fewest_to(side, goal), [])

    def test_an_empty_side(self):
        for goal in (1, 2, FAR_BEYOND):
            self.assertIsNone(fewest_to([], goal))

    def test_just_reached_and_one_more(self):
        self.assertEqual(sorted(fewest_to(TWELVE, 2649)), sorted(name for name, weight in TWELVE))
        self.assertIsNone(fewest_to(TWELVE, 2650))
        self.assertIsNone(fewest_to(TWELVE, FAR_BEYOND))
        self.assertEqual(fewest_to([("ann", 5)], 5), ["ann"])
        self.assertIsNone(fewest_to([("ann", 5)], 6))

    def test_the_heaviest_wherever_it_lies(self):
        for side in itertools.permutations([("ann", 5), ("bob", 3), ("cid", 2)]):
            self.assertEqual(len(fewest_to(list(side), 1)), 1)
            self.assertEqual(len(fewest_to(list(side), 3)), 1)
            self.assertEqual(fewest_to(list(side), 5), ["ann"])
            self.assertEqual(sorted(fewest_to(list(side), 8)), ["ann", "bob"])
            self.assertEqual(sorted(fewest_to(list(side), 9)), ["ann", "bob", "cid"])

    def test_every_goal_of_twelve(self):
        for goal in range(-3, 2660):
            self.assert_fewest(TWELVE, goal)

    def test_made_sides(self):
        chance = random.Random(5)
        for turn in range(200):
            side = made_side(chance, chance.randint(0, 12), chance.choice((2, 9, 1000)))
            whole = total(side)
            for goal in (1, whole // 2, whole - 1, whole, whole + 1):
                self.assert_fewest(side, goal)


class Cheapest(unittest.TestCase):
    def assert_cheapest(self, offers, goal, least):
        told = cheapest(offers, goal)
        if least is None:
            self.assertIsNone(told)
            return
        self.assertIsInstance(told, list)
        self.assertEqual(told, sorted(set(told)))
        self.assertTrue(all(place in range(len(offers)) for place in told))
        self.assertEqual(sum(offers[place][0] for place in told), least)
        self.assertGreaterEqual(sum(offers[place][1] for place in told), goal)

    def test_a_goal_below_one(self):
        for offers in ([], [(1, 1)], [(3, 4), (5, 6)]):
            for goal in (0, -1, -70000, FAR_BELOW):
                self.assertEqual(cheapest(offers, goal), [])

    def test_no_offers(self):
        for goal in (1, FAR_BEYOND):
            self.assertIsNone(cheapest([], goal))

    def test_just_reached_and_one_more(self):
        offers = [(3, 4), (5, 6), (1, 1)]
        self.assertEqual(cheapest(offers, 11), [0, 1, 2])
        self.assertIsNone(cheapest(offers, 12))
        self.assertIsNone(cheapest(offers, FAR_BEYOND))

    def test_one_dear_or_two_cheap(self):
        self.assertEqual(cheapest([(4, 10), (1, 5), (2, 5)], 10), [1, 2])
        self.assertEqual(cheapest([(2, 10), (1, 5), (2, 5)], 10), [0])
        # What gains most for its cost is no part of the cheapest list here.
        self.assertEqual(cheapest([(5, 9), (6, 10), (9, 10)], 10), [1])
        self.assertEqual(cheapest([(9, 10), (5, 9), (6, 10)], 10), [2])

    def test_against_all_lists(self):
        chance = random.Random(11)
        for turn in range(120):
            bounds = chance.choice(((3, 3), (3, 12), (12, 3), (12, 12), (1500, 12), (12, 1000), (1500, 1000)))
            offers = made_offers(chance, chance.randint(0, 8), *bounds)
            whole = sum(gain for cost, gain in offers)
            for goal in sorted({1, 2, whole // 3, whole // 2, whole - 1, whole}):
                if goal >= 1:
                    self.assert_cheapest(offers, goal, least_cost(offers, goal))
            self.assertIsNone(cheapest(offers, whole + 1))

    def test_every_goal_of_some_offers(self):
        offers = [(4, 7), (1, 1), (9, 20), (3, 5), (3, 6), (12, 20)]
        for goal in range(1, 63):
            self.assert_cheapest(offers, goal, least_cost(offers, goal))

    def test_twenty_four_offers(self):
        chance = random.Random(17)
        for turn in range(3):
            offers = made_offers(chance, 24, 1500, 1000)
            whole = sum(gain for cost, gain in offers)
            for goal in (1, whole // 4, whole // 2, whole - 1, whole):
                self.assert_cheapest(offers, goal, least_cost_by_row(offers, goal))
            for goal in (whole + 1, FAR_BEYOND):
                self.assertIsNone(cheapest(offers, goal))

    def test_twenty_four_offers_soon(self):
        chance = random.Random(19)
        gains = [chance.randint(500, 1000) for place in range(24)]
        hard = [
            [(gain * 3 // 2, gain) for gain in gains],
            [(gain + 500, gain) for gain in gains],
            [(1500, 1000)] * 24,
            [(1, 1)] * 24,
            made_offers(chance, 24, 1500, 1000),
        ]
        begun = time.perf_counter()
        for offers in hard:
            whole = sum(gain for cost, gain in offers)
            for part in range(1, 9):
                cheapest(offers, whole * part // 8)
            for goal in (whole + 1, 10 ** 12, FAR_BEYOND, FAR_BELOW):
                cheapest(offers, goal)
        # Some seconds at the very most; all lists would be sixteen millions for each goal.
        self.assertLess(time.perf_counter() - begun, 30)

    def test_hard_offers_against_a_row(self):
        chance = random.Random(23)
        offers = [(gain * 3 // 2, gain) for gain in [chance.randint(500, 1000) for place in range(24)]]
        whole = sum(gain for cost, gain in offers)
        self.assert_cheapest(offers, whole // 2, least_cost_by_row(offers, whole // 2))

    def test_offers_somewhat_beyond_the_bounds(self):
        chance = random.Random(29)
        offers = made_offers(chance, 27, 1700, 1200)
        whole = sum(gain for cost, gain in offers)
        self.assert_cheapest(offers, whole // 2, least_cost_by_row(offers, whole // 2))


class Untouched(unittest.TestCase):
    def test_what_is_handed_in_stays(self):
        side = list(TWELVE)
        offers = [(9, 3), (2, 5), (4, 4)]
        before = deep((side, offers))
        total(side)
        heaviest(side, 4)
        for goal in (-1, 0, 1, 8, 2649, 9999):
            fewest_to(side, goal)
            cheapest(offers, goal)
        self.assertEqual(deep((side, offers)), before)

    def test_told_lists_are_new(self):
        side = list(TWELVE)
        offers = [(9, 3), (2, 5), (4, 4)]
        for goal in (0, 1, 8, 12):
            for told, again in ((fewest_to, side), (cheapest, offers)):
                first = told(again, goal)
                kept = list(first)
                first.append("changed")
                first.reverse()
                self.assertEqual(told(again, goal), kept)
