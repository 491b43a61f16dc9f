"""The interface, roundsteps/errors.py."""

import unittest

from roundsteps import errors

NAMES = (
    "BadRing", "BadSteps", "BadPlace", "BadCount", "BadNumber",
    "BadWay", "BadPlaces", "BadStep", "BadTale", "Nothing",
)


class Errors(unittest.TestCase):
    def test_round_error_stands_straight_under_value_error(self):
        self.assertEqual(errors.RoundError.__bases__, (ValueError,))

    def test_each_stands_straight_under_round_error(self):
        for name in NAMES:
            with self.subTest(name):
                self.assertEqual(getattr(errors, name).__bases__, (errors.RoundError,))

    def test_no_two_are_one(self):
        self.assertEqual(len({getattr(errors, name) for name in NAMES}), len(NAMES))

    def test_each_can_be_raised_with_a_message(self):
        for name in NAMES:
            with self.subTest(name):
                with self.assertRaises(errors.RoundError) as caught:
                    raise getattr(errors, name)("why")
                self.assertEqual(str(caught.exception), "why")


if __name__ == "__main__":
    unittest.main()
