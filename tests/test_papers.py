"""forsworn.papers: [6], [7], [8], of [1] and [4] what touches papers, of [17] NoCase."""

import itertools
import random
import time
import unittest

from forsworn.errors import NoCase
from forsworn.papers import good_paper, paper
from forsworn.stands import settled
from tests.helper import LETTERS, Refusing, all_oaths, deep, line_of_suits, made_suits, suit, swearers

FAR = 10 ** 18 - 1

# ann swears for case 0 and bob against it; 1 and 3 stand and name bob, 2 falls and names ann.
FOREST = [
    suit([("ann", 5), ("cid", 2)], [("bob", 4), ("dan", 1)], 3),
    suit([("eve", 3)], [], 3, (0, "bob")),
    suit([("eve", 3)], [("fay", 2)], 2, (0, "ann")),
    suit([("gus", 9)], [("hob", 1)], 8, (0, "bob")),
]
NO_OATHS = [suit([], [], 1)]


# The looker: it goes by [6] and [7] point for point, and knows nothing of how the program does it.

def weights(one_suit):
    return dict(one_suit[0] + one_suit[1])


def claim(one_suit, stands, name):
    is_one = name in [one for one, weight in one_suit[0]]
    if stands:
        return "kept" if is_one else "broken"
    return "broken" if is_one else "kept"


def looks_enough(one_suit, stands, names):
    ones, others, need, named = one_suit
    told = sum(weights(one_suit)[name] for name in names)
    if stands:
        return told >= need + sum(weight for name, weight in others)
    return told > sum(weight for name, weight in ones) - need


def cases_that_name(suits, oath):
    return [case for case, one_suit in enumerate(suits) if one_suit[3] == oath]


def looks_backed(suits, entries, entry):
    case, stands, names = entry
    for name in names:
        named_by = cases_that_name(suits, (case, name))
        if claim(suits[case], stands, name) == "broken":
            if not any(other[0] in named_by and other[1] is True for other in entries):
                return False
        elif not all(any(other[0] == later and other[1] is False for other in entries) for later in named_by):
            return False
    return True


def looks_good(suits, case, stands, entries):
    if not any(entry[0] == case and entry[1] is stands for entry in entries):
        return False
    if len({entry[0] for entry in entries}) < len(entries):
        return False
    for number, truth, names in entries:
        if number not in range(len(suits)) or len(set(names)) < len(names):
            return False
        if not set(names) <= set(swearers(suits[number])) or not looks_enough(suits[number], truth, names):
            return False
    return all(looks_backed(suits, entries, entry) for entry in entries)


def true_names(suits, case):
    standing = settled(suits)
    told = []
    for name in swearers(suits[case]):
        is_broken = any(standing[later] for later in cases_that_name(suits, (case, name)))
        if claim(suits[case], standing[case], name) == ("broken" if is_broken else "kept"):
            told.append(name)
    return told


def fewest_enough(suits, case):
    """How many names are enough at least, of those of which the claim is true: the heaviest are the fewest."""
    one_suit = suits[case]
    row = sorted(true_names(suits, case), key=lambda name: -weights(one_suit)[name])
    stands = settled(suits)[case]
    return next(many for many in range(len(row) + 1) if looks_enough(one_suit, stands, row[:many]))


def fewest_enough_of_all_lists(suits, case):
    row = true_names(suits, case)
    stands = settled(suits)[case]
    for many in range(len(row) + 1):
        if any(looks_enough(suits[case], stands, names) for names in itertools.combinations(row, many)):
            return many


class Looked(unittest.TestCase, Refusing):
    def assert_told(self, suits, case):
        told = paper(suits, case)
        standing = settled(suits)
        self.assertTrue(looks_good(suits, case, standing[case], told), (suits, case, told))
        self.assertIs(good_paper(suits, case, standing[case], told), True)
        self.assertIs(good_paper(suits, case, not standing[case], told), False)
        numbers = [entry[0] for entry in told]
        self.assertEqual(numbers[0], case)
        self.assertEqual(numbers[1:], sorted(set(numbers[1:])))
        asked = {case}
        for number, truth, names in told:
            self.assertIs(truth, standing[number])
            self.assertLessEqual(set(names), set(true_names(suits, number)))
            self.assertEqual(len(names), fewest_enough(suits, number))
            for name in names:
                named_by = [later for later in cases_that_name(suits, (number, name)) if later in numbers]
                if claim(suits[number], truth, name) == "broken":
                    self.assertEqual(len(named_by), 1)
                asked.update(named_by)
        self.assertEqual(set(numbers), asked)
        self.assert_kinds(told)
        return told

    def assert_kinds(self, told):
        self.assertIs(type(told), list)
        for entry in told:
            self.assertIs(type(entry), tuple)
            self.assertEqual([type(part) for part in entry], [int, bool, list])

    def assert_held(self, suits, case, stands, entries):
        """good_paper tells what the looker tells, and what a good paper says is so."""
        told = good_paper(suits, case, stands, entries)
        self.assertIs(told, looks_good(suits, case, stands, entries), (suits, case, stands, entries))
        if told:
            self.assertIs(settled(suits)[case], stands)
        return told


class Paper(Looked):
    def sorted_names(self, entries):
        return [(case, stands, sorted(names)) for case, stands, names in entries]

    def test_a_case_alone_that_stands(self):
        ones = [("ann", 6), ("bob", 2), ("cid", 1)]
        self.assertEqual(self.assert_told([suit(ones, [], 6)], 0), [(0, True, ["ann"])])
        told = self.assert_told([suit(ones, [("dan", 3)], 5)], 0)
        self.assertEqual(self.sorted_names(told), [(0, True, ["ann", "bob"])])
        told = self.assert_told([suit(ones, [], 9)], 0)
        self.assertEqual(self.sorted_names(told), [(0, True, ["ann", "bob", "cid"])])

    def test_a_case_alone_that_falls(self):
        one = [suit([("ann", 6)], [("bob", 2), ("cid", 5)], 4)]
        self.assertEqual(self.assert_told(one, 0), [(0, False, ["cid"])])
        one = [suit([("ann", 6)], [("bob", 2), ("cid", 2)], 3)]
        self.assertEqual(self.sorted_names(self.assert_told(one, 0)), [(0, False, ["bob", "cid"])])

    def test_a_need_that_the_ones_never_reach(self):
        self.assertEqual(self.assert_told([suit([("ann", 6)], [("bob", 2)], 7)], 0), [(0, False, [])])
        # With the need reached one name against is wanted.
        self.assertEqual(self.assert_told([suit([("ann", 6)], [("bob", 2)], 6)], 0), [(0, False, ["bob"])])

    def test_empty_sides(self):
        self.assertEqual(self.assert_told(NO_OATHS, 0), [(0, False, [])])
        self.assertEqual(self.assert_told([suit([], [("ann", 4)], 1)], 0), [(0, False, [])])
        self.assertEqual(self.assert_told([suit([("ann", 4)], [], 4)], 0), [(0, True, ["ann"])])
        self.assertEqual(self.assert_told([suit([("ann", 4)], [], 5)], 0), [(0, False, [])])

    def test_several_that_name_one_oath(self):
        told = self.assert_told(FOREST, 0)
        self.assertEqual(settled(FOREST), [True, True, False, True])
        self.assertEqual(self.sorted_names(told[:1]), [(0, True, ["ann", "bob"])])
        # ann is claimed to be kept, so that 2 has an entry; bob to be broken, so that just one of 1 and 3 has.
        numbers = [entry[0] for entry in told]
        self.assertIn(numbers, ([0, 1, 2], [0, 2, 3]))

    def test_a_kept_oath_that_several_falling_cases_name(self):
        suits = [suit([("ann", 5)], [], 5)]
        suits += [suit([("bob", 1)], [("cid", 1)], 1, (0, "ann")) for turn in range(4)]
        told = self.assert_told(suits, 0)
        self.assertEqual(told, [(0, True, ["ann"])] + [(case, False, ["cid"]) for case in range(1, 5)])

    def test_a_broken_oath_that_falling_and_standing_cases_name(self):
        suits = [suit([("ann", 5)], [], 5), suit([], [], 1, (0, "ann")), suit([("bob", 1)], [], 1, (0, "ann"))]
        self.assertEqual(self.assert_told(suits, 0), [(0, False, ["ann"]), (2, True, ["bob"])])

    def test_cases_that_no_claim_asks_for(self):
        # 1 names cid, whose oath is not wanted: neither 1 nor 2, which bears on it, has an entry.
        suits = [
            suit([("ann", 5), ("cid", 1)], [], 5),
            suit([("bob", 1)], [], 1, (0, "cid")),
            suit([("dan", 1)], [], 1, (1, "bob")),
            suit([("eve", 1)], [], 1),
        ]
        self.assertEqual(self.assert_told(suits, 0), [(0, True, ["ann"])])
        self.assertEqual(self.assert_told(suits, 2), [(2, True, ["dan"])])
        self.assertEqual(self.assert_told(suits, 1), [(1, False, ["bob"]), (2, True, ["dan"])])

    def test_the_same_name_in_another_case_is_another_oath(self):
        suits = [suit([("ann", 5)], [], 5), suit([("ann", 5)], [], 5), suit([("ann", 5)], [], 5, (1, "ann"))]
        self.assertEqual(self.assert_told(suits, 0), [(0, True, ["ann"])])
        self.assertEqual(self.assert_told(suits, 1), [(1, False, ["ann"]), (2, True, ["ann"])])

    def test_a_line(self):
        suits = [suit([("ann", 1)], [], 1)]
        suits += [suit([("ann", 1)], [], 1, (case - 1, "ann")) for case in range(1, 60)]
        for case in range(60):
            self.assertEqual(
                self.assert_told(suits, case),
                [(later, later % 2 == 1, ["ann"]) for later in range(case, 60)],
            )

    def test_small_suits_against_all_lists(self):
        seen = []
        for seed in range(150):
            suits = made_suits(seed, 1 + seed % 8)
            for case in range(len(suits)):
                told = self.assert_told(suits, case)
                for entry in told:
                    self.assertEqual(len(entry[2]), fewest_enough_of_all_lists(suits, entry[0]))
                seen.append((told[0][1], len(told) > 2, len(told[0][2]) > 1))
        self.assertEqual(len(set(seen)), 8)

    def test_many_suits(self):
        longest = 0
        for seed in range(12):
            suits = made_suits(seed, 30, side=5, weight=30, need=40, naming=0.95)
            longest = max([longest] + [len(self.assert_told(suits, case)) for case in range(30)])
        self.assertGreater(longest, 5)

    def test_sixty_suits_in_a_line_soon(self):
        begun = time.perf_counter()
        papers = [(suits, paper(suits, 0)) for suits in [line_of_suits(seed, 60, 12) for seed in range(6)]]
        self.assertLess(time.perf_counter() - begun, 10)
        for suits, told in papers:
            self.assert_told(suits, 0)
        for case in range(0, 60, 7):
            self.assert_told(line_of_suits(1, 60, 12), case)

    def test_a_line_in_which_every_oath_is_wanted(self):
        ones = [(letter, 1000) for letter in LETTERS[:12]]
        others = [(letter, 1000) for letter in LETTERS[12:24]]
        # The ones outweigh the others and the need to the very weight: one broken oath for a case fells it.
        suits = [suit(ones + [("y", 1)], others, 1)]
        suits += [suit(ones + [("y", 1)], others, 1, (case - 1, "y")) for case in range(1, 60)]
        told = self.assert_told(suits, 0)
        self.assertEqual([entry[:2] for entry in told], [(case, case % 2 == 1) for case in range(60)])
        self.assertEqual([len(entry[2]) for entry in told], [13] * 60)

    def test_somewhat_beyond_the_bounds(self):
        suits = line_of_suits(3, 66, 13, weight=1200)
        for case in (0, 1, 40, 65):
            self.assert_told(suits, case)

    def test_a_case_that_is_not_there(self):
        for suits in ([], FOREST, NO_OATHS, line_of_suits(1, 60, 12)):
            for case in (-1, -2, -len(suits), -FAR, len(suits), len(suits) + 1, FAR):
                if case not in range(len(suits)):
                    self.assert_refused(NoCase, paper, suits, case)


class GoodPaper(Looked):
    def test_an_empty_paper(self):
        for suits in ([], NO_OATHS, FOREST):
            for case in (-1, 0, 1, len(suits), FAR):
                for stands in (True, False):
                    self.assertIs(good_paper(suits, case, stands, []), False)

    def test_the_order_is_free(self):
        good = [(0, True, ["ann", "bob"]), (2, False, ["fay"]), (3, True, ["gus"])]
        bad = [(0, True, ["ann", "bob"]), (2, False, ["fay"]), (3, False, ["hob"])]
        for row, told in ((good, True), (bad, False)):
            for entries in itertools.permutations(row):
                turned_about = [(case, stands, names[::-1]) for case, stands, names in entries]
                self.assertIs(self.assert_held(FOREST, 0, True, list(entries)), told)
                self.assertIs(self.assert_held(FOREST, 0, True, turned_about), told)

    def test_enough_to_the_very_weight(self):
        stands = [suit([("ann", 5), ("bob", 1)], [("cid", 2)], 3)]
        self.assertIs(good_paper(stands, 0, True, [(0, True, ["ann"])]), True)
        self.assertIs(good_paper(stands, 0, True, [(0, True, ["ann", "bob"])]), True)
        self.assertIs(good_paper(stands, 0, True, [(0, True, ["bob"])]), False)
        self.assertIs(good_paper(stands, 0, True, [(0, True, [])]), False)
        light = [suit([("ann", 4), ("bob", 1)], [("cid", 2)], 3)]
        self.assertIs(good_paper(light, 0, True, [(0, True, ["ann"])]), False)
        self.assertIs(good_paper(light, 0, True, [(0, True, ["ann", "bob"])]), True)
        falls = [suit([("ann", 5)], [("bob", 3), ("cid", 1)], 3)]
        self.assertIs(good_paper(falls, 0, False, [(0, False, ["bob"])]), True)
        self.assertIs(good_paper(falls, 0, False, [(0, False, ["cid"])]), False)
        even = [suit([("ann", 5)], [("bob", 2), ("cid", 1)], 3)]
        self.assertIs(good_paper(even, 0, False, [(0, False, ["bob"])]), False)
        self.assertIs(good_paper(even, 0, False, [(0, False, ["bob", "cid"])]), True)

    def test_a_kept_claim_wants_each_case_that_names_the_oath(self):
        suits = [suit([("ann", 5)], [], 5), suit([], [], 1, (0, "ann")), suit([], [], 1, (0, "ann"))]
        both = [(0, True, ["ann"]), (1, False, []), (2, False, [])]
        self.assertIs(good_paper(suits, 0, True, both), True)
        self.assertIs(good_paper(suits, 0, True, both[:2]), False)
        self.assertIs(good_paper(suits, 0, True, [both[0], both[2]]), False)
        self.assertIs(good_paper(suits, 0, True, both[:1]), False)

    def test_a_broken_claim_wants_one_case_that_names_the_oath(self):
        entries = [(0, True, ["ann", "bob"]), (2, False, ["fay"])]
        self.assertIs(good_paper(FOREST, 0, True, entries), False)
        for more in ([(1, True, ["eve"])], [(3, True, ["gus"])], [(3, True, ["gus"]), (1, True, ["eve"])]):
            self.assertIs(good_paper(FOREST, 0, True, entries + more), True)
        suits = [suit([("ann", 1)], [], 1), suit([("bob", 1)], [], 1)]
        self.assertIs(good_paper(suits, 0, False, [(0, False, ["ann"]), (1, True, ["bob"])]), False)

    def test_an_oath_that_no_case_names_is_not_broken(self):
        suits = [suit([("ann", 1)], [], 1)]
        self.assertIs(good_paper(suits, 0, False, [(0, False, ["ann"])]), False)
        suits = [suit([("ann", 1)], [("bob", 1)], 1)]
        self.assertIs(good_paper(suits, 0, True, [(0, True, ["ann", "bob"])]), False)

    def test_the_case_and_the_truth(self):
        told = paper(FOREST, 0)
        self.assertIs(good_paper(FOREST, 0, True, told), True)
        self.assertIs(good_paper(FOREST, 0, False, told), False)
        for case, stands, names in told:
            self.assertIs(good_paper(FOREST, case, stands, told), True)
            self.assertIs(good_paper(FOREST, case, not stands, told), False)
        for case in (-1, -4, -FAR, 4, 5, FAR):
            for stands in (True, False):
                self.assertIs(good_paper(FOREST, case, stands, told), False)

    def test_names_twice_or_not_there(self):
        one = [suit([("ann", 2), ("bob", 2)], [("cid", 1)], 3), suit([("dan", 9)], [], 1)]
        self.assertIs(good_paper(one, 0, True, [(0, True, ["ann", "bob"])]), True)
        for names in (["ann", "ann"], ["ann", "bob", "ann"], ["ann", "dan"], ["ann", "bob", "dan"], ["ann", "bob", ""],
                      ["ann", "bob", "Ann"], ["ann", "bob", "abcdefghijklmnop"], ["ann", "bob", "bob"]):
            self.assertIs(good_paper(one, 0, True, [(0, True, names)]), False, names)

    def test_cases_twice_or_not_there(self):
        one = [suit([("ann", 2)], [], 2), suit([("bob", 2)], [], 2)]
        good = (0, True, ["ann"])
        self.assertIs(good_paper(one, 0, True, [good]), True)
        self.assertIs(good_paper(one, 0, True, [good, (1, True, ["bob"])]), True)
        for more in (good, (0, False, ["ann"]), (-1, True, ["bob"]), (-2, True, ["ann"]), (2, True, []),
                     (2, False, []), (-1, False, []), (FAR, False, []), (-FAR, True, ["ann"])):
            self.assertIs(good_paper(one, 0, True, [good, more]), False, more)
            self.assertIs(good_paper(one, 0, True, [more, good]), False, more)
            if more != good:
                self.assertIs(good_paper(one, more[0], more[1], [more]), False, more)
        self.assertIs(good_paper([], 0, False, [(0, False, [])]), False)
        self.assertIs(good_paper([], -1, False, [(-1, False, [])]), False)

    def test_entries_that_nothing_needs(self):
        suits = [suit([("ann", 2)], [], 2), suit([("bob", 2)], [], 2), suit([("cid", 1)], [], 1, (1, "bob"))]
        told = paper(suits, 0)
        self.assertEqual(told, [(0, True, ["ann"])])
        self.assertIs(good_paper(suits, 0, True, told + paper(suits, 1)), True)
        # An entry that nothing needs is held to the same as all the others.
        self.assertIs(good_paper(suits, 0, True, told + [(1, False, ["bob"])]), False)
        self.assertIs(good_paper(suits, 0, True, told + [(1, True, ["bob"])]), False)
        self.assertIs(good_paper(suits, 0, True, told + [(2, True, [])]), False)

    def test_papers_joined(self):
        for seed in range(60):
            suits = made_suits(seed, 8)
            joined = {}
            for case in range(8):
                for entry in paper(suits, case):
                    joined.setdefault(entry[0], entry)
            whole = list(joined.values())
            for case, stands in enumerate(settled(suits)):
                self.assertTrue(self.assert_held(suits, case, stands, whole))
                self.assertFalse(self.assert_held(suits, case, not stands, whole))
            self.assert_held(suits, 0, settled(suits)[0], paper(suits, 0) + paper(suits, 1))

    def test_no_case_is_shown_by_itself(self):
        # The entries of a case and of those that name its oaths lean on later ones, never on one another.
        suits = [suit([("ann", 1)], [], 1), suit([("bob", 1)], [], 1, (0, "ann"))]
        self.assertIs(good_paper(suits, 0, True, [(0, True, ["ann"]), (1, False, ["bob"])]), False)
        self.assertIs(good_paper(suits, 0, False, [(0, False, ["ann"]), (1, True, ["bob"])]), True)


class Changed(Looked):
    def anew(self, chance, suits, entry):
        names = swearers(suits[entry[0]])
        return (entry[0], chance.random() < 0.5, chance.sample(names, chance.randint(0, len(names))))

    def with_other_name(self, chance, entry):
        case, stands, names = entry
        if not names:
            return (case, stands, [chance.choice(LETTERS)])
        place = chance.randrange(len(names))
        return (case, stands, names[:place] + [chance.choice(LETTERS)] + names[place + 1:])

    def changes(self, chance, suits, told):
        """The paper with one change, for each kind of change."""
        place = chance.randrange(len(told))
        ahead, entry, behind = told[:place], told[place], told[place + 1:]
        case, stands, names = entry
        more = chance.choice(LETTERS)
        others = [
            (case, not stands, names), self.anew(chance, suits, entry), self.with_other_name(chance, entry),
            (case, stands, names[1:]), (case, stands, names + names[:1]), (case, stands, names + [more]),
            (case, stands, names[::-1]), (case, stands, sorted(swearers(suits[case]))),
            (-1, stands, names), (case - len(suits), stands, names), (len(suits), stands, names),
            (chance.randrange(len(suits)), stands, names),
        ]
        yield ahead + behind
        yield told[::-1]
        yield told + [entry]
        yield told + [self.anew(chance, suits, entry)]
        yield told + [self.anew(chance, suits, (chance.randrange(len(suits)), True, []))]
        yield told + [(-1, stands, names)]
        for other in others:
            yield ahead + [other] + behind

    def test_told_papers_with_a_change(self):
        chance = random.Random(31)
        seen = []
        for seed in range(120):
            suits = made_suits(seed, 2 + seed % 9, naming=0.95)
            for case in range(len(suits)):
                told = paper(suits, case)
                for entries in self.changes(chance, suits, told):
                    for stands in (True, False):
                        seen.append(self.assert_held(suits, case, stands, entries))
                    self.assert_held(suits, chance.randint(-1, len(suits)), stands, entries)
        self.assertGreater(seen.count(True), 1000)
        self.assertGreater(seen.count(False), 1000)

    def test_an_entry_less_is_no_good_paper(self):
        for seed in range(60):
            suits = made_suits(seed, 9, naming=0.95)
            for case, stands in enumerate(settled(suits)):
                told = paper(suits, case)
                for place in range(len(told)):
                    self.assertIs(good_paper(suits, case, stands, told[:place] + told[place + 1:]), False)

    def test_a_name_less_is_no_good_paper(self):
        for seed in range(60):
            suits = made_suits(seed, 9, naming=0.95)
            for case, stands in enumerate(settled(suits)):
                told = paper(suits, case)
                for place, (number, truth, names) in enumerate(told):
                    for name in names:
                        fewer = (number, truth, [other for other in names if other != name])
                        entries = told[:place] + [fewer] + told[place + 1:]
                        self.assertIs(good_paper(suits, case, stands, entries), False)


class AllPapers(Looked):
    def entries_of(self, suits, case):
        names = swearers(suits[case])
        lists = [list(some) for many in range(len(names) + 1) for some in itertools.combinations(names, many)]
        return [None] + [(case, stands, some) for stands in (True, False) for some in lists]

    def test_what_a_good_paper_says_is_so(self):
        good = 0
        for seed in range(60):
            suits = made_suits(seed, 3, side=1 + seed % 2, weight=3, need=3, naming=1)
            if len(all_oaths(suits)) > 6:
                continue
            shown = set()
            for entries in itertools.product(*[self.entries_of(suits, case) for case in range(3)]):
                entries = [entry for entry in entries if entry is not None]
                for case, stands in [(entry[0], entry[1]) for entry in entries]:
                    if self.assert_held(suits, case, stands, entries):
                        shown.add((case, stands))
                        good += 1
            # All papers were tried: what is so has a good one, and nothing else has.
            self.assertEqual(shown, set(enumerate(settled(suits))))
        self.assertGreater(good, 1000)

    def test_many_papers_of_more_suits(self):
        chance = random.Random(37)
        good = 0
        for seed in range(200):
            suits = made_suits(seed, 5, side=2, weight=3, need=3, naming=1)
            rows = [self.entries_of(suits, case) for case in range(5)]
            for turn in range(60):
                entries = [chance.choice(row) for row in rows]
                entries = [entry for entry in entries if entry is not None]
                for case in range(5):
                    for stands in (True, False):
                        good += self.assert_held(suits, case, stands, entries)
        self.assertGreater(good, 100)


class Untouched(unittest.TestCase):
    def test_what_is_handed_in_stays(self):
        for seed in range(20):
            suits = made_suits(seed, 9)
            before = deep(suits)
            for case, stands in enumerate(settled(suits)):
                told = paper(suits, case)
                entries = deep(told)
                good_paper(suits, case, stands, told)
                good_paper(suits, case, not stands, told)
                self.assertEqual(deep(told), entries)
            self.assertEqual(deep(suits), before)

    def test_told_lists_are_new(self):
        for case in range(4):
            told = paper(FOREST, case)
            kept = deep(told)
            for entry in told:
                entry[2].append("changed")
                entry[2].reverse()
            told.append("changed")
            told.reverse()
            self.assertEqual(deep(paper(FOREST, case)), kept)

    def test_suits_changed_afterwards(self):
        suits = [suit([("ann", 5)], [], 5)]
        told = paper(suits, 0)
        suits[0][0].append(("bob", 5))
        suits.append(suit([("cid", 1)], [], 1, (0, "ann")))
        self.assertEqual(told, [(0, True, ["ann"])])
        self.assertEqual(paper(suits, 0), [(0, True, ["bob"])])
