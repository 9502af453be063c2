"""The refusals stand where the interface says."""

import unittest

from roundsalone import errors

NAMES = ("TooMany", "NoName", "NoNet", "NoRound", "NoStep", "NoTie", "NoMatch", "NoText")


class Refusals(unittest.TestCase):

    def test_the_base_stands_straight_under_value_error(self):
        self.assertEqual(errors.RoundError.__bases__, (ValueError,))

    def test_each_other_stands_straight_under_the_base(self):
        for name in NAMES:
            with self.subTest(name):
                self.assertEqual(getattr(errors, name).__bases__, (errors.RoundError,))

    def test_none_stands_under_another(self):
        for name in NAMES:
            for other in NAMES:
                under = issubclass(getattr(errors, name), getattr(errors, other))
                self.assertEqual(under, name == other, (name, other))

    def test_each_can_be_raised_and_taken_as_the_base(self):
        for name in NAMES:
            with self.subTest(name), self.assertRaises(errors.RoundError):
                raise getattr(errors, name)("words")


if __name__ == "__main__":
    unittest.main()
