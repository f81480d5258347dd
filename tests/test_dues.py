"""forsworn.dues: [13], of [1] and [2] what touches money."""

import itertools
import random
import unittest

from forsworn.dues import balance, owed
from forsworn.folk import Folk
from tests.helper import FORTY, deep, slow_balance, slow_owed

NAMES = ["ann", "bob", "cid", "dan", "eve", "fay"]


def folk_of(*deaths):
    folk = Folk()
    for name in NAMES:
        folk.come(name, 0, 1)
    for name, day, heir in deaths:
        folk.die(name, day, heir)
    return folk


def made_entries(chance, many, most):
    return [
        (chance.randint(0, 12), chance.choice(NAMES), chance.choice(NAMES), chance.randint(1, most))
        for turn in range(many)
    ]


class Dues(unittest.TestCase):
    def assert_owed(self, entries, folk, day, triples):
        told = owed(entries, folk, day)
        self.assertEqual(told, triples)
        self.assertIs(type(told), list)
        self.assertTrue(all(type(triple) is tuple for triple in told))
        self.assertEqual(told, sorted(told))
        pairs = [frozenset(triple[:2]) for triple in told]
        self.assertTrue(all(len(pair) == 2 for pair in pairs))
        self.assertEqual(len(set(pairs)), len(pairs))
        self.assertTrue(all(triple[2] > 0 for triple in told))
        balances = [balance(entries, folk, day, name) for name in folk.names()]
        self.assertEqual(balances, [slow_balance(entries, folk, day, name) for name in folk.names()])
        self.assertEqual(sum(balances), 0)

    def test_no_entries(self):
        self.assert_owed([], folk_of(), 0, [])
        self.assertEqual(balance([], folk_of(), 9, "ann"), 0)

    def test_one_entry(self):
        entries = [(5, "bob", "ann", 7)]
        for day, triples in ((0, []), (4, []), (5, [("bob", "ann", 7)]), (6, [("bob", "ann", 7)]),
                             (9999, [("bob", "ann", 7)])):
            self.assert_owed(entries, folk_of(), day, triples)
        self.assertEqual([balance(entries, folk_of(), 4, name) for name in ("ann", "bob", "cid")], [0, 0, 0])
        self.assertEqual([balance(entries, folk_of(), 5, name) for name in ("ann", "bob", "cid")], [7, -7, 0])

    def test_the_first_and_the_last_day(self):
        entries = [(9999, "ann", "bob", 2), (0, "ann", "bob", 1)]
        for day, many in ((0, 1), (1, 1), (9998, 1), (9999, 3)):
            self.assert_owed(entries, folk_of(), day, [("ann", "bob", many)])

    def test_any_order_of_entries(self):
        entries = [(5, "bob", "ann", 7), (3, "ann", "bob", 2), (8, "cid", "ann", 4), (8, "ann", "bob", 9)]
        for row in itertools.permutations(entries):
            row = list(row)
            self.assert_owed(row, folk_of(), 2, [])
            self.assert_owed(row, folk_of(), 3, [("ann", "bob", 2)])
            self.assert_owed(row, folk_of(), 5, [("bob", "ann", 5)])
            self.assert_owed(row, folk_of(), 8, [("ann", "bob", 4), ("cid", "ann", 4)])

    def test_sums_of_the_same_two(self):
        entries = [(1, "ann", "bob", 2), (1, "ann", "bob", 2), (2, "ann", "bob", 1000000), (3, "bob", "ann", 1)]
        self.assert_owed(entries, folk_of(), 1, [("ann", "bob", 4)])
        self.assert_owed(entries, folk_of(), 2, [("ann", "bob", 1000004)])
        self.assert_owed(entries, folk_of(), 3, [("ann", "bob", 1000003)])

    def test_an_entry_and_its_very_opposite(self):
        for one, other in (("ann", "bob"), ("bob", "ann")):
            entries = [(1, one, other, 1000000), (2, other, one, 1000000)]
            self.assert_owed(entries, folk_of(), 1, [(one, other, 1000000)])
            self.assert_owed(entries, folk_of(), 2, [])
            self.assert_owed(entries + [(3, other, one, 1)], folk_of(), 3, [(other, one, 1)])

    def test_one_name_to_itself(self):
        entries = [(1, "ann", "ann", 5), (1, "bob", "bob", 1000000)]
        self.assert_owed(entries, folk_of(), 4, [])
        self.assert_owed(entries + [(1, "ann", "bob", 1)], folk_of(), 4, [("ann", "bob", 1)])

    def test_nothing_is_passed_round(self):
        # What goes in a ring is not set against one another: only two by two.
        entries = [(1, "ann", "bob", 5), (1, "bob", "cid", 5), (1, "cid", "ann", 5)]
        self.assert_owed(entries, folk_of(), 1, [("ann", "bob", 5), ("bob", "cid", 5), ("cid", "ann", 5)])
        self.assertEqual([balance(entries, folk_of(), 1, name) for name in NAMES], [0] * 6)

    def test_heirs_of_a_debtor(self):
        folk = folk_of(("ann", 6, "cid"))
        for day, debtor in ((5, "ann"), (6, "cid"), (7, "cid")):
            self.assert_owed([(2, "ann", "bob", 3)], folk, day, [(debtor, "bob", 3)])
        # An entry of a day behind the death stands with the heir as well.
        self.assert_owed([(8, "ann", "bob", 3)], folk, 8, [("cid", "bob", 3)])
        self.assertEqual([balance([(2, "ann", "bob", 3)], folk, 6, name) for name in ("ann", "bob", "cid")], [0, 3, -3])

    def test_heirs_of_a_creditor(self):
        folk = folk_of(("bob", 6, "ann"), ("ann", 8, "dan"))
        for day, creditor in ((5, "bob"), (6, "ann"), (7, "ann"), (8, "dan")):
            self.assert_owed([(2, "cid", "bob", 3)], folk, day, [("cid", creditor, 3)])

    def test_both_to_one_heir(self):
        folk = folk_of(("ann", 6, "cid"), ("bob", 7, "cid"))
        entries = [(2, "ann", "bob", 3), (2, "cid", "bob", 5), (2, "dan", "ann", 1), (2, "bob", "dan", 4)]
        self.assert_owed(entries, folk, 5, [
            ("ann", "bob", 3), ("bob", "dan", 4), ("cid", "bob", 5), ("dan", "ann", 1),
        ])
        self.assert_owed(entries, folk, 6, [("bob", "dan", 4), ("cid", "bob", 8), ("dan", "cid", 1)])
        self.assert_owed(entries, folk, 7, [("cid", "dan", 3)])

    def test_who_come_to_be_the_same(self):
        for folk in (folk_of(("ann", 6, "bob")), folk_of(("bob", 6, "ann"))):
            entries = [(2, "ann", "bob", 3), (4, "bob", "ann", 1000)]
            self.assert_owed(entries, folk, 3, [("ann", "bob", 3)])
            self.assert_owed(entries, folk, 5, [("bob", "ann", 997)])
            self.assert_owed(entries, folk, 6, [])
            for name in NAMES:
                self.assertEqual(balance(entries, folk, 6, name), 0)

    def test_an_asked_day_ahead_of_the_death(self):
        folk = folk_of(("ann", 6, "cid"), ("cid", 3, "dan"))
        entries = [(5, "ann", "cid", 9), (5, "cid", "ann", 4)]
        self.assert_owed(entries, folk, 5, [("ann", "dan", 5)])
        self.assert_owed(entries, folk, 6, [])

    def test_a_line_of_forty_heirs(self):
        folk = Folk()
        for name in FORTY:
            folk.come(name, 0, 1)
        for place, name in enumerate(FORTY[:-1]):
            folk.die(name, 100 + place, FORTY[place + 1])
        entries = [(place, name, FORTY[-1], 1000000) for place, name in enumerate(FORTY)]
        self.assertEqual(len(owed(entries, folk, 99)), 39)
        for dead_ones in (1, 20, 38):
            day = 99 + dead_ones
            self.assert_owed(entries, folk, day, slow_owed(entries, folk, day))
            heir = FORTY[dead_ones]
            self.assertIn((heir, FORTY[-1], (dead_ones + 1) * 1000000), owed(entries, folk, day))
            self.assertEqual(balance(entries, folk, day, FORTY[-1]), 39 * 1000000)
        self.assert_owed(entries, folk, 138, [])
        self.assert_owed([(1, FORTY[0], "dj", 5), (1, FORTY[3], FORTY[2], 5)], folk, 9999, [])

    def test_against_the_words(self):
        triples = 0
        for seed in range(400):
            chance = random.Random(seed)
            folk = folk_of()
            living = list(NAMES)
            for turn in range(chance.randint(0, 5)):
                name, heir = chance.sample(living, 2)
                living.remove(name)
                folk.die(name, chance.randint(0, 12), heir)
            entries = made_entries(chance, chance.randint(0, 14), chance.choice((2, 30, 1000000)))
            for day in (0, 3, 6, 9, 12, 9999):
                self.assert_owed(entries, folk, day, slow_owed(entries, folk, day))
                triples += len(owed(entries, folk, day))
        self.assertGreater(triples, 1000)

    def test_many_entries(self):
        chance = random.Random(7)
        entries = made_entries(chance, 400, 1000000)
        for day in range(0, 14):
            self.assert_owed(entries, folk_of(("bob", 8, "eve")), day, slow_owed(entries, folk_of(("bob", 8, "eve")), day))

    def test_somewhat_beyond_the_bounds(self):
        entries = [(10001, "ann", "bob", 1000003), (0, "cid", "bob", 2000000)]
        self.assertEqual(owed(entries, folk_of(), 10000), [("cid", "bob", 2000000)])
        self.assertEqual(owed(entries, folk_of(), 10001), [("ann", "bob", 1000003), ("cid", "bob", 2000000)])
        self.assertEqual(balance(entries, folk_of(), 10001, "bob"), 3000003)
        self.assertEqual(owed(entries, folk_of(), -1), [])


class Untouched(unittest.TestCase):
    def test_what_is_handed_in_stays(self):
        folk = folk_of(("ann", 6, "cid"), ("cid", 9, "dan"))
        entries = made_entries(random.Random(3), 30, 99)
        before = deep(entries)
        for day in range(14):
            owed(entries, folk, day)
            balance(entries, folk, day, "dan")
        self.assertEqual(deep(entries), before)
        self.assertEqual(folk.names(), NAMES)
        self.assertEqual([folk.stands_for("ann", day) for day in (5, 6, 9)], ["ann", "cid", "dan"])

    def test_told_lists_are_new(self):
        entries = [(1, "ann", "bob", 5)]
        told = owed(entries, folk_of(), 3)
        told.append(("cid", "dan", 1))
        self.assertEqual(owed(entries, folk_of(), 3), [("ann", "bob", 5)])
        owed([], folk_of(), 3).append("changed")
        self.assertEqual(owed([], folk_of(), 3), [])

    def test_entries_changed_afterwards(self):
        folk = folk_of()
        entries = [(1, "ann", "bob", 5)]
        told = owed(entries, folk, 3)
        entries.append((2, "bob", "ann", 6))
        self.assertEqual(told, [("ann", "bob", 5)])
        self.assertEqual(owed(entries, folk, 3), [("bob", "ann", 1)])
        folk.die("ann", 3, "cid")
        self.assertEqual(owed(entries, folk, 3), [("bob", "cid", 1)])
