"""forsworn.errors: the interface's refusals, [17]."""

import unittest

from forsworn import errors
from tests.helper import REFUSALS


class Errors(unittest.TestCase):
    def test_moot_error_stands_straight_under_value_error(self):
        self.assertEqual(errors.MootError.__bases__, (ValueError,))

    def test_all_nineteen_stand_straight_under_moot_error(self):
        self.assertEqual(len(set(REFUSALS)), 19)
        for name in REFUSALS:
            with self.subTest(name=name):
                self.assertEqual(getattr(errors, name).__bases__, (errors.MootError,))
                self.assertEqual(getattr(errors, name).__name__, name)

    def test_no_refusal_is_of_another_ones_class(self):
        for name in REFUSALS:
            for other in REFUSALS:
                is_under = issubclass(getattr(errors, name), getattr(errors, other))
                self.assertEqual(is_under, name == other, (name, other))

    def test_each_is_made_with_a_text(self):
        for name in REFUSALS + ("MootError",):
            with self.subTest(name=name):
                self.assertEqual(str(getattr(errors, name)("some words")), "some words")
                with self.assertRaises(errors.MootError):
                    raise getattr(errors, name)("some words")
