"""Moots of the full size: 40 folk, 40 things, 60 cases, 400 moments. They are asked all questions soon."""

import time
import unittest

from forsworn.known import moved, turned
from forsworn.moot import Moot
from tests.helper import FORTY, QUESTIONS, Refusing, all_told, full_moot

SOON = 60


class FullSize(unittest.TestCase, Refusing):
    def test_all_questions_soon(self):
        begun = time.perf_counter()
        for seed in (1, 2):
            moot = full_moot(seed)
            self.assertEqual([len(moot.names()), moot.things(), moot.cases(), moot.now()], [40, 40, 60, 400])
            self.assertGreater(min(moot.standing().count(True), moot.standing().count(False)), 8)
            told = all_told(moot, (0, 45, 500, 9000, 9999))
            self.assertEqual({asked[0] for asked, what in told}, set(QUESTIONS))
            self.assertTrue(all(moot.fewest(case) for case in range(60)))
        self.assertLess(time.perf_counter() - begun, SOON)

    def test_all_moments_soon(self):
        moot = full_moot(3)
        begun = time.perf_counter()
        told = [(turned(moot, moment), moved(moot, 9999, moment)) for moment in range(401)]
        self.assertLess(time.perf_counter() - begun, SOON)
        self.assertEqual(told[400], ([], []))
        self.assertTrue(any(cases for cases, things in told))
        self.assertTrue(any(things for cases, things in told))

    def test_a_line_of_sixty_accusings(self):
        moot = Moot()
        for name in FORTY:
            moot.come(name, 0, 1000)
        moot.bring("aa", 0)
        moot.claim("ab", 0, 5, 12000, FORTY[:12], [])
        for case in range(1, 60):
            moot.penance(FORTY[case % 2])
            moot.accuse(case - 1, FORTY[(case - 1) % 2], 5, 1000, [FORTY[case % 2]], [])
        self.assertEqual(moot.standing(), [case % 2 == 1 for case in range(60)])
        self.assertEqual(moot.chain(59), list(range(58, -1, -1)))
        self.assertEqual(moot.bearing(0), list(range(1, 60)))
        self.assertEqual([len(moot.fewest(case)) for case in range(60)], [1] * 60)
        self.assertEqual(len(moot.paper(0)), 60)
        self.assertEqual(moot.holder(0, 9), "aa")
