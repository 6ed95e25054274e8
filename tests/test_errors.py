import unittest

from slashwise import errors
from slashwise.errors import (
    Misfit, NoBasic, NoForm, NoKind, NoNumber, NoPlace, NoReading, NoRow, NoTerm, NoWord, SlashError, TooMany, Twice,
)

REFUSALS = [
    NoForm, NoKind, NoTerm, NoPlace, NoRow, NoBasic, Twice, Misfit, NoWord, NoReading, NoNumber, TooMany,
]


class ErrorsTest(unittest.TestCase):
    def test_slash_error_is_a_value_error(self):
        self.assertTrue(issubclass(SlashError, ValueError))

    def test_each_refusal_stands_straight_under_slash_error(self):
        for refusal in REFUSALS:
            self.assertEqual(refusal.__bases__, (SlashError,), refusal)

    def test_none_stands_under_another(self):
        for one in REFUSALS:
            for other in REFUSALS:
                self.assertEqual(issubclass(one, other), one is other)

    def test_no_other_classes(self):
        there = [thing for thing in vars(errors).values() if isinstance(thing, type)]
        self.assertEqual(set(there), set(REFUSALS) | {SlashError})

    def test_refusals_without_fields(self):
        for refusal in [SlashError, NoForm, NoKind, NoTerm, NoPlace, NoReading]:
            error = refusal("why")
            self.assertEqual(str(error), "why")
            self.assertEqual(vars(error), {})

    def test_field_row(self):
        for refusal in [NoRow, NoBasic, Twice, Misfit]:
            for row in [0, 1, 62]:
                self.assertEqual(vars(refusal(row)), {"row": row})

    def test_fields_of_no_word(self):
        self.assertEqual(vars(NoWord("cat", 3)), {"word": "cat", "place": 3})
        self.assertEqual(vars(NoWord("", 0)), {"word": "", "place": 0})

    def test_fields_of_no_number(self):
        self.assertEqual(vars(NoNumber(-1, 5)), {"number": -1, "count": 5})

    def test_fields_of_too_many(self):
        self.assertEqual(vars(TooMany(201, 200)), {"count": 201, "most": 200})

    def test_each_is_raised_and_taken_as_a_refusal(self):
        for error in [NoForm("w"), NoRow(1), NoWord("w", 0), NoNumber(1, 0), TooMany(2, 1)]:
            with self.assertRaises(SlashError) as caught:
                raise error
            self.assertIs(caught.exception, error)


if __name__ == "__main__":
    unittest.main()
