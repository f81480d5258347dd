"""What several tests use: suits made by a seed, and slow answers straight from the document's words."""

import itertools
import random

from forsworn.errors import MootError

REFUSALS = (
    "NoName", "NoMeasure", "Unknown", "Taken", "NoThing", "NoCase", "NoOath", "NotYet", "Dead", "NoHeir",
    "TooMany", "SwornTwice", "Forsworn", "TooLight", "Broken", "NoMoment", "NothingBack", "NothingForth", "NoDeed",
)
LETTERS = "abcdefghijklmnopqrstuvwxyz"


def suit(ones, others, need, named=None):
    return (ones, others, need, named)


def swearers(one_suit):
    return [name for name, weight in one_suit[0] + one_suit[1]]


def all_oaths(suits):
    return [(case, name) for case, one_suit in enumerate(suits) for name in swearers(one_suit)]


def made_side(chance, names, weight):
    return [(name, chance.randint(1, weight)) for name in names]


def made_suits(seed, many, side=3, weight=6, need=6, naming=0.8):
    """Many suits; each names an oath of an earlier case by the given chance, often the case ahead of it."""
    chance = random.Random(seed)
    suits = []
    for case in range(many):
        names = chance.sample(LETTERS, 2 * side)
        cut = chance.randint(0, side)
        end = cut + chance.randint(0, side)
        ones = made_side(chance, names[:cut], weight)
        others = made_side(chance, names[cut:end], weight)
        earlier = all_oaths(suits)
        named = None
        if earlier and chance.random() < naming:
            near = [oath for oath in earlier if oath[0] == case - 1]
            named = chance.choice(near if near and chance.random() < 0.5 else earlier)
        suits.append(suit(ones, others, chance.randint(1, need), named))
    return suits


def line_of_suits(seed, many, side, weight=1000):
    """Many suits with full sides; each names an oath of the one ahead of it, or of one some places ahead."""
    chance = random.Random(seed)
    suits = []
    for case in range(many):
        names = chance.sample(LETTERS, 2 * side)
        ones = made_side(chance, names[:side], weight)
        others = made_side(chance, names[side:], weight)
        lead = sum(heavy for name, heavy in ones) - sum(heavy for name, heavy in others)
        named = None
        if case:
            ahead = max(0, case - chance.choice((1, 1, 1, 1, 2, 3)))
            named = (ahead, chance.choice(swearers(suits[ahead])))
        # A need near what the ones have more, so that many cases turn with a single oath.
        suits.append(suit(ones, others, max(1, lead + chance.randint(-weight, weight)), named))
    return suits


def some_oaths(seed, suits):
    chance = random.Random(seed)
    oaths = all_oaths(suits)
    return [chance.choice(oaths) for turn in range(chance.randint(0, 6))] if oaths else []


def is_broken(suits, standing, more, case, name):
    named = [one_suit[3] for one_suit, stands in zip(suits, standing) if stands]
    return (case, name) in more or (case, name) in named


def slow_margin(suits, standing, more, case):
    ones, others, need, named = suits[case]
    told = -need
    for name, weight in ones:
        told += 0 if is_broken(suits, standing, more, case, name) else weight
    for name, weight in others:
        told -= 0 if is_broken(suits, standing, more, case, name) else weight
    return told


def ways(suits, more):
    """All lists of True and False that keep to the words of [4]; they say that it is just one."""
    return [
        list(standing)
        for standing in itertools.product([True, False], repeat=len(suits))
        if all(
            stands == (slow_margin(suits, standing, more, case) >= 0)
            for case, stands in enumerate(standing)
        )
    ]


def slow_chain(suits, case):
    named = suits[case][3]
    return [] if named is None else [named[0]] + slow_chain(suits, named[0])


def least_cost(offers, goal):
    """The least cost of all lists that reach the goal, by trying them all; None where none does."""
    costs = []
    for taken in itertools.product([False, True], repeat=len(offers)):
        chosen = [offer for offer, yes in zip(offers, taken) if yes]
        if sum(gain for cost, gain in chosen) >= goal:
            costs.append(sum(cost for cost, gain in chosen))
    return min(costs, default=None)


def least_cost_by_row(offers, goal):
    """The same for many offers: the least cost for each gain up to the goal."""
    row = [0] + [None] * goal
    for cost, gain in offers:
        for reached in range(goal, 0, -1):
            before = row[max(reached - gain, 0)]
            if before is not None and (row[reached] is None or before + cost < row[reached]):
                row[reached] = before + cost
    return row[goal]


def deep(value):
    """A text of a value with all that lies in it, to hold it against itself later."""
    return repr(value)


class Refusing:
    """For a TestCase: a call is refused with just this class."""

    def assert_refused(self, refusal, call, *arguments):
        with self.assertRaises(refusal) as caught:
            call(*arguments)
        self.assertIs(type(caught.exception), refusal)
        self.assertIsInstance(caught.exception, MootError)
        self.assertIsInstance(caught.exception, ValueError)
        self.assertIsInstance(caught.exception.args[0], str)
