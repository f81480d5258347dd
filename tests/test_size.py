"""Moots of the full size: 40 folk, 40 things, 60 cases, 400 moments. They are asked all questions soon."""

import random
import time
import unittest

from forsworn.deeds import done
from forsworn.errors import MootError
from forsworn.known import moved, turned
from forsworn.moot import Moot
from tests.helper import FORTY, QUESTIONS, Refusing, all_told, swearers

SOON = 60


def made_sides(chance, moot):
    free = [name for name in FORTY if not moot.forsworn(name) and not moot.dead(name, 9999)]
    chance.shuffle(free)
    return free[:12], free[12:12 + chance.choice((0, 11, 12, 12))]


def made_case(chance, moot):
    ones, others = made_sides(chance, moot)
    heavy = sum(moot.weight(name, 500) for name in ones)
    lead = heavy - sum(moot.weight(name, 500) for name in others)
    need = min(12000, max(1, min(heavy, lead + chance.randint(-900, 300))))
    word = chance.choice(("claim", "wergild", "accuse", "accuse", "accuse"))
    if word == "accuse" and moot.cases():
        case = max(0, moot.cases() - chance.choice((1, 1, 1, 2, 5)))
        return (word, case, chance.choice(swearers(moot.suits()[case])), 500, need, ones, others)
    if word == "claim":
        return (word, chance.choice(FORTY), chance.randrange(40), 500, need, ones, others)
    return ("wergild", chance.choice(FORTY), chance.choice(FORTY), 1000000, 500, need, ones, others)


def made_other(chance, moot):
    word = chance.choice(("give", "give", "pay", "rise", "penance", "penance"))
    one, other = chance.choice(FORTY), chance.choice(FORTY)
    day = chance.randint(50, 9999)
    if word == "give":
        thing = chance.randrange(40)
        return (word, thing, chance.choice((one, moot.holder(thing, day))), other, day)
    if word == "pay":
        return (word, one, other, chance.randint(1, 1000000), day)
    if word == "rise":
        return (word, one, day, chance.randint(1, 1000))
    forsworn = [name for name in FORTY if moot.forsworn(name)]
    return (word, chance.choice(forsworn or FORTY))


def full_moot(seed):
    chance = random.Random(seed)
    moot = Moot()
    for name in FORTY:
        moot.come(name, chance.randint(0, 40), chance.randint(500, 1000))
    for thing in range(40):
        moot.bring(chance.choice(FORTY), chance.randint(40, 50))
    while moot.now() < 400:
        behind = moot.cases() * 5 < moot.now() - 80
        deed = made_case(chance, moot) if behind and moot.cases() < 60 else made_other(chance, moot)
        if moot.now() in (200, 250, 300):
            deed = ("die", chance.choice(FORTY), 9000, chance.choice(FORTY))
        try:
            done(moot, deed)
        except MootError:
            pass
    return moot


class FullSize(unittest.TestCase, Refusing):
    def test_all_questions_soon(self):
        begun = time.perf_counter()
        for seed in (1, 2):
            moot = full_moot(seed)
            self.assertEqual([len(moot.names()), moot.things(), moot.cases(), moot.now()], [40, 40, 60, 400])
            self.assertGreater(min(moot.standing().count(True), moot.standing().count(False)), 8)
            told = all_told(moot, (0, 45, 500, 9000, 9999))
            self.assertEqual({asked[0] for asked, what in told}, set(QUESTIONS))
            self.assertTrue(all(moot.fewest(case) for case in range(60)))
        self.assertLess(time.perf_counter() - begun, SOON)

    def test_all_moments_soon(self):
        moot = full_moot(3)
        begun = time.perf_counter()
        told = [(turned(moot, moment), moved(moot, 9999, moment)) for moment in range(401)]
        self.assertLess(time.perf_counter() - begun, SOON)
        self.assertEqual(told[400], ([], []))
        self.assertTrue(any(cases for cases, things in told))
        self.assertTrue(any(things for cases, things in told))

    def test_a_line_of_sixty_accusings(self):
        moot = Moot()
        for name in FORTY:
            moot.come(name, 0, 1000)
        moot.bring("aa", 0)
        moot.claim("ab", 0, 5, 12000, FORTY[:12], [])
        for case in range(1, 60):
            moot.penance(FORTY[case % 2])
            moot.accuse(case - 1, FORTY[(case - 1) % 2], 5, 1000, [FORTY[case % 2]], [])
        self.assertEqual(moot.standing(), [case % 2 == 1 for case in range(60)])
        self.assertEqual(moot.chain(59), list(range(58, -1, -1)))
        self.assertEqual(moot.bearing(0), list(range(1, 60)))
        self.assertEqual([len(moot.fewest(case)) for case in range(60)], [1] * 60)
        self.assertEqual(len(moot.paper(0)), 60)
        self.assertEqual(moot.holder(0, 9), "aa")
