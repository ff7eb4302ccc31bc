"""The refusals and how they stand to one another."""
import unittest

from roundlist import errors

NAMES = ("BadClubs", "BadRounds", "BadClub", "BadOrder", "BadText", "NothingDone")


class ErrorsTest(unittest.TestCase):
    def test_any_refusal_is_a_value_error(self):
        self.assertEqual(errors.RoundError.__bases__, (ValueError,))

    def test_each_of_the_six_is_straight_under_round_error(self):
        for name in NAMES:
            with self.subTest(name=name):
                self.assertEqual(getattr(errors, name).__bases__, (errors.RoundError,))

    def test_none_is_under_another_one(self):
        for name in NAMES:
            for other in NAMES:
                with self.subTest(name=name, other=other):
                    self.assertEqual(issubclass(getattr(errors, name), getattr(errors, other)), name == other)

    def test_each_is_defined_there_under_its_name(self):
        for name in ("RoundError", *NAMES):
            with self.subTest(name=name):
                self.assertEqual(getattr(errors, name).__module__, "roundlist.errors")
                self.assertEqual(getattr(errors, name).__name__, name)

    def test_each_can_be_raised_and_caught_as_any_refusal(self):
        for name in NAMES:
            with self.subTest(name=name), self.assertRaises(errors.RoundError):
                raise getattr(errors, name)("refused")


if __name__ == "__main__":
    unittest.main()
