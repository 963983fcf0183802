import unittest

from dicepairs import errors

NAMES = ["BadDie", "BadDice", "BadNumber", "BadCounts", "BadText"]


class Errors(unittest.TestCase):
    def test_dice_error_is_a_value_error(self):
        self.assertEqual(errors.DiceError.__bases__, (ValueError,))

    def test_each_refusal_stands_straight_under_dice_error(self):
        for name in NAMES:
            with self.subTest(name):
                self.assertEqual(getattr(errors, name).__bases__, (errors.DiceError,))

    def test_all_are_defined_in_this_file(self):
        for name in ["DiceError"] + NAMES:
            with self.subTest(name):
                self.assertEqual(getattr(errors, name).__module__, "dicepairs.errors")
                self.assertEqual(getattr(errors, name).__name__, name)


if __name__ == "__main__":
    unittest.main()
