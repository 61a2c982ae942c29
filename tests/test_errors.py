import unittest

from leaprules import errors
from leaprules.errors import InvalidText, IsPeriod, RuleError

WITH_A_STRING = ["InvalidDivisors", "InvalidEntries", "InvalidAnswers", "InvalidNumber", "InvalidForm",
                 "TooLarge", "NoNumber", "NothingToUndo"]
ALL = WITH_A_STRING + ["IsPeriod", "InvalidText"]


class Errors(unittest.TestCase):
    def test_rule_error_is_a_value_error(self):
        self.assertTrue(issubclass(RuleError, ValueError))
        self.assertEqual(str(RuleError("why")), "why")

    def test_all_are_direct_subclasses_of_rule_error(self):
        for name in ALL:
            self.assertEqual(getattr(errors, name).__bases__, (RuleError,), name)
            self.assertEqual(getattr(errors, name).__module__, "leaprules.errors")
        self.assertEqual(len({getattr(errors, name) for name in ALL}), 10)

    def test_eight_are_made_with_one_string(self):
        for name in WITH_A_STRING:
            made = getattr(errors, name)("why it failed")
            self.assertEqual(str(made), "why it failed")
            with self.assertRaises(RuleError):
                raise made

    def test_is_period_keeps_the_least(self):
        self.assertEqual(IsPeriod(12).least, 12)
        self.assertEqual(IsPeriod(least=400).least, 400)

    def test_is_period_takes_an_integer_too_long_to_be_written(self):
        least = 10 ** 5000
        caught = IsPeriod(least)
        self.assertEqual(caught.least, least)
        self.assertIsInstance(str(caught), str)

    def test_invalid_text_keeps_the_place(self):
        self.assertEqual(InvalidText(0).place, 0)
        self.assertEqual(InvalidText(place=7).place, 7)
        with self.assertRaises(ValueError) as caught:
            raise InvalidText(3)
        self.assertEqual(caught.exception.place, 3)


if __name__ == "__main__":
    unittest.main()
