"""forsworn.goods: [11], [12], and of [1] what touches them."""

import itertools
import random
import unittest

from forsworn.folk import Folk
from forsworn.goods import holder, road
from tests.helper import deep, walked

NAMES = ["ann", "bob", "cid", "dan", "eve", "fay"]


def folk_of(*deaths):
    folk = Folk()
    for name in NAMES:
        folk.come(name, 0, 1)
    for name, day, heir in deaths:
        folk.die(name, day, heir)
    return folk


class Road(unittest.TestCase):
    def assert_road(self, brought, events, folk, day, steps):
        told = road(brought, events, folk, day)
        self.assertEqual(told, steps)
        self.assertIs(type(told), list)
        self.assertTrue(all(type(step) is tuple for step in told))
        self.assertEqual(holder(brought, events, folk, day), steps[-1][3] if steps else None)

    def test_the_bringing(self):
        folk = folk_of()
        for day in (0, 1, 4):
            self.assert_road(("ann", 5), [], folk, day, [])
            self.assertIsNone(holder(("ann", 5), [], folk, day))
        for day in (5, 6, 9999):
            self.assert_road(("ann", 5), [], folk, day, [(5, "brought", None, "ann")])
            self.assertEqual(holder(("ann", 5), [], folk, day), "ann")
        self.assert_road(("ann", 0), [], folk, 0, [(0, "brought", None, "ann")])
        self.assert_road(("ann", 9999), [], folk, 9999, [(9999, "brought", None, "ann")])
        self.assert_road(("ann", 9999), [], folk, 9998, [])

    def test_ahead_of_the_bringing_with_events_behind_it(self):
        events = [(5, "given", "ann", "bob"), (6, "won", None, "cid")]
        self.assert_road(("ann", 5), events, folk_of(("ann", 2, "bob")), 4, [])

    def test_gifts_by_the_holder(self):
        events = [(6, "given", "ann", "bob"), (8, "given", "bob", "cid")]
        steps = [(5, "brought", None, "ann"), (6, "given", "ann", "bob"), (8, "given", "bob", "cid")]
        for day, many in ((5, 1), (6, 2), (7, 2), (8, 3), (9, 3)):
            self.assert_road(("ann", 5), events, folk_of(), day, steps[:many])

    def test_gifts_by_anybody_else_are_void(self):
        for giver in ("bob", "cid", "dan"):
            events = [(6, "given", giver, "cid")]
            self.assert_road(("ann", 5), events, folk_of(), 9, [(5, "brought", None, "ann")])
        # Who gave it away holds it no more; who will get it does not hold it yet.
        events = [(6, "given", "bob", "cid"), (7, "given", "ann", "bob"), (8, "given", "ann", "dan")]
        steps = [(5, "brought", None, "ann"), (7, "given", "ann", "bob")]
        self.assert_road(("ann", 5), events, folk_of(), 9, steps)

    def test_a_giver_who_is_the_taker(self):
        events = [(6, "given", "ann", "ann"), (7, "given", "bob", "bob")]
        steps = [(5, "brought", None, "ann"), (6, "given", "ann", "ann")]
        self.assert_road(("ann", 5), events, folk_of(), 9, steps)

    def test_won_cases(self):
        events = [(6, "won", None, "bob"), (7, "won", None, "bob"), (8, "given", "ann", "cid"), (9, "won", None, "ann")]
        steps = [
            (5, "brought", None, "ann"), (6, "won", "ann", "bob"), (7, "won", "bob", "bob"), (9, "won", "bob", "ann"),
        ]
        for day, many in ((5, 1), (6, 2), (7, 3), (8, 3), (9, 4)):
            self.assert_road(("ann", 5), events, folk_of(), day, steps[:many])

    def test_the_order_of_days(self):
        events = [(9, "given", "bob", "cid"), (6, "given", "ann", "bob"), (8, "given", "bob", "bob")]
        steps = [
            (5, "brought", None, "ann"), (6, "given", "ann", "bob"), (8, "given", "bob", "bob"),
            (9, "given", "bob", "cid"),
        ]
        for row in itertools.permutations(events):
            self.assert_road(("ann", 5), list(row), folk_of(), 9, steps)

    def test_several_on_one_day_in_the_order_of_telling(self):
        first, second = (5, "given", "ann", "bob"), (5, "given", "bob", "cid")
        steps = [(5, "brought", None, "ann"), first, second]
        self.assert_road(("ann", 5), [first, second], folk_of(), 5, steps)
        self.assert_road(("ann", 5), [second, first], folk_of(), 5, steps[:2])
        # Neither words nor names sort them.
        won, given = (6, "won", None, "bob"), (6, "given", "ann", "cid")
        self.assert_road(
            ("ann", 5), [won, given], folk_of(), 6, [(5, "brought", None, "ann"), (6, "won", "ann", "bob")]
        )
        self.assert_road(
            ("ann", 5), [given, won], folk_of(), 6,
            [(5, "brought", None, "ann"), (6, "given", "ann", "cid"), (6, "won", "cid", "bob")],
        )

    def test_left_at_the_end(self):
        folk = folk_of(("ann", 8, "bob"))
        steps = [(5, "brought", None, "ann"), (8, "left", "ann", "bob")]
        for day, many in ((5, 1), (7, 1), (8, 2), (9, 2), (9999, 2)):
            self.assert_road(("ann", 5), [], folk, day, steps[:many])

    def test_left_through_several(self):
        folk = folk_of(("ann", 8, "bob"), ("bob", 10, "cid"), ("cid", 7, "dan"))
        steps = [
            (5, "brought", None, "ann"), (8, "left", "ann", "bob"), (10, "left", "bob", "cid"),
            (10, "left", "cid", "dan"),
        ]
        for day, many in ((7, 1), (8, 2), (9, 2), (10, 4), (11, 4)):
            self.assert_road(("ann", 5), [], folk, day, steps[:many])

    def test_an_heir_who_died_earlier_or_on_the_same_day(self):
        for day in (1, 4, 5, 7, 8):
            folk = folk_of(("ann", 8, "bob"), ("bob", day, "cid"))
            steps = [(5, "brought", None, "ann"), (8, "left", "ann", "bob"), (8, "left", "bob", "cid")]
            self.assert_road(("ann", 5), [], folk, 8, steps)
            self.assert_road(("ann", 5), [], folk, 7, steps[:1])

    def test_gifts_by_who_stands_for_the_holder(self):
        folk = folk_of(("ann", 8, "bob"))
        for day, steps in (
            (7, []),
            (8, [(8, "left", "ann", "bob"), (8, "given", "bob", "cid")]),
            (9, [(8, "left", "ann", "bob"), (9, "given", "bob", "cid")]),
        ):
            events = [(day, "given", "bob", "cid")]
            self.assert_road(("ann", 5), events, folk, day, [(5, "brought", None, "ann")] + steps)

    def test_gifts_by_the_dead_are_void(self):
        folk = folk_of(("ann", 8, "bob"))
        alive = [(5, "brought", None, "ann"), (7, "given", "ann", "cid")]
        self.assert_road(("ann", 5), [(7, "given", "ann", "cid")], folk, 9, alive)
        for day in (8, 9):
            steps = [(5, "brought", None, "ann"), (8, "left", "ann", "bob")]
            self.assert_road(("ann", 5), [(day, "given", "ann", "cid")], folk, day, steps)

    def test_left_ahead_of_a_won_case(self):
        folk = folk_of(("ann", 8, "bob"), ("bob", 9, "cid"))
        steps = [(5, "brought", None, "ann"), (8, "left", "ann", "bob"), (8, "won", "bob", "dan")]
        self.assert_road(("ann", 5), [(8, "won", None, "dan")], folk, 12, steps)
        steps = [
            (5, "brought", None, "ann"), (8, "left", "ann", "bob"), (9, "left", "bob", "cid"),
            (11, "won", "cid", "dan"),
        ]
        self.assert_road(("ann", 5), [(11, "won", None, "dan")], folk, 12, steps)

    def test_won_ahead_of_the_death(self):
        folk = folk_of(("ann", 8, "bob"))
        steps = [(5, "brought", None, "ann"), (7, "won", "ann", "dan")]
        self.assert_road(("ann", 5), [(7, "won", None, "dan")], folk, 12, steps)

    def test_left_ahead_of_a_void_gift(self):
        folk = folk_of(("ann", 8, "bob"))
        events = [(10, "given", "dan", "cid"), (10, "given", "ann", "cid"), (10, "given", "bob", "cid")]
        steps = [(5, "brought", None, "ann"), (8, "left", "ann", "bob"), (10, "given", "bob", "cid")]
        self.assert_road(("ann", 5), events, folk, 12, steps)
        self.assert_road(("ann", 5), events[:2], folk, 12, steps[:2])

    def test_brought_by_one_who_is_dead_by_then(self):
        folk = folk_of(("ann", 3, "bob"), ("bob", 4, "cid"))
        steps = [(5, "brought", None, "ann"), (5, "left", "ann", "bob"), (5, "left", "bob", "cid")]
        self.assert_road(("ann", 5), [], folk, 4, [])
        self.assert_road(("ann", 5), [], folk, 5, steps)
        self.assert_road(("ann", 5), [(5, "given", "cid", "dan")], folk, 5, steps + [(5, "given", "cid", "dan")])

    def test_given_to_or_won_by_one_who_is_dead_by_then(self):
        folk = folk_of(("bob", 3, "cid"))
        for word, giver in (("given", "ann"), ("won", None)):
            events = [(6, word, giver, "bob")]
            steps = [(5, "brought", None, "ann"), (6, word, "ann", "bob"), (6, "left", "bob", "cid")]
            self.assert_road(("ann", 5), events, folk, 5, steps[:1])
            self.assert_road(("ann", 5), events, folk, 6, steps)
            self.assert_road(("ann", 5), events, folk, 9, steps)

    def test_the_heir_gives_it_back_to_the_dead(self):
        folk = folk_of(("ann", 6, "bob"))
        events = [(7, "given", "bob", "ann"), (7, "given", "bob", "ann")]
        steps = [
            (5, "brought", None, "ann"), (6, "left", "ann", "bob"), (7, "given", "bob", "ann"),
            (7, "left", "ann", "bob"), (7, "given", "bob", "ann"), (7, "left", "ann", "bob"),
        ]
        self.assert_road(("ann", 5), events, folk, 7, steps)

    def test_won_by_the_heir_or_from_himself(self):
        folk = folk_of(("ann", 8, "bob"))
        steps = [(5, "brought", None, "ann"), (8, "left", "ann", "bob"), (9, "won", "bob", "bob")]
        self.assert_road(("ann", 5), [(9, "won", None, "bob")], folk, 9, steps)

    def test_against_a_walk_day_by_day(self):
        words = {"given": 0, "won": 0, "left": 0}
        void = 0
        for seed in range(500):
            chance = random.Random(seed)
            heirs = {}
            folk = folk_of()
            for turn in range(chance.randint(0, 6)):
                living = [name for name in NAMES if name not in heirs]
                if len(living) > 1:
                    name, heir = chance.sample(living, 2)
                    folk.die(name, chance.randint(0, 12), heir)
                    heirs[name] = heir
            brought = (chance.choice(NAMES), chance.randint(0, 6))
            events = [self.made_event(chance, brought[1]) for turn in range(chance.randint(0, 12))]
            for day in list(range(14)) + [40]:
                self.assert_road(brought, events, folk, day, walked(brought, events, folk, heirs, day))
            for step in road(brought, events, folk, 40)[1:]:
                words[step[1]] += 1
            void += len(events) - len([step for step in road(brought, events, folk, 40) if step[1] in ("given", "won")])
        self.assertGreater(min(words.values()), 100)
        self.assertGreater(void, 100)

    def made_event(self, chance, first):
        day = chance.randint(first, 12)
        if chance.random() < 0.3:
            return (day, "won", None, chance.choice(NAMES))
        return (day, "given", chance.choice(NAMES), chance.choice(NAMES))

    def test_a_line_of_forty_heirs(self):
        folk = Folk()
        row = ["q" + name + other for name in "abcdefgh" for other in "abcde"]
        for name in row:
            folk.come(name, 0, 1)
        for place, name in enumerate(row[:-1]):
            folk.die(name, 10 + place * 7 % 5, row[place + 1])
        told = road((row[0], 3), [], folk, 9999)
        self.assertEqual(len(told), 40)
        self.assertEqual([step[3] for step in told], row)
        self.assertEqual([step[0] for step in told], sorted(step[0] for step in told))
        self.assertEqual(holder((row[0], 3), [], folk, 9999), row[-1])

    def test_days_somewhat_beyond_the_bounds(self):
        folk = folk_of(("ann", 9999, "bob"))
        events = [(10001, "given", "bob", "cid")]
        steps = [(5, "brought", None, "ann"), (9999, "left", "ann", "bob"), (10001, "given", "bob", "cid")]
        self.assert_road(("ann", 5), events, folk, 10000, steps[:2])
        self.assert_road(("ann", 5), events, folk, 10002, steps)
        self.assert_road(("ann", 0), [], folk, -1, [])


class Untouched(unittest.TestCase):
    def test_what_is_handed_in_stays(self):
        folk = folk_of(("ann", 8, "bob"), ("bob", 9, "cid"))
        brought = ("ann", 5)
        events = [(10, "given", "cid", "dan"), (7, "won", None, "ann"), (7, "given", "bob", "cid")]
        before = deep((brought, events))
        for day in range(4, 14):
            road(brought, events, folk, day)
            holder(brought, events, folk, day)
        self.assertEqual(deep((brought, events)), before)
        self.assertEqual(folk.names(), NAMES)
        self.assertEqual([folk.stands_for("ann", day) for day in (7, 8, 9)], ["ann", "bob", "cid"])

    def test_told_lists_are_new(self):
        folk = folk_of(("ann", 8, "bob"))
        events = [(7, "given", "ann", "ann")]
        for day in (4, 5, 7, 9):
            told = road(("ann", 5), events, folk, day)
            kept = list(told)
            told.append("changed")
            told.reverse()
            self.assertEqual(road(("ann", 5), events, folk, day), kept)

    def test_what_is_changed_afterwards(self):
        folk = folk_of()
        events = [(7, "given", "ann", "bob")]
        told = road(("ann", 5), events, folk, 9)
        events.append((8, "won", None, "cid"))
        folk.die("ann", 6, "dan")
        self.assertEqual(told, [(5, "brought", None, "ann"), (7, "given", "ann", "bob")])
        self.assertEqual(
            road(("ann", 5), events, folk, 9),
            [(5, "brought", None, "ann"), (6, "left", "ann", "dan"), (8, "won", "dan", "cid")],
        )
