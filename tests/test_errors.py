"""Point [3]: the refusals' classes, how they are made, and their fields."""

import unittest

from eitherslack import errors
from eitherslack.errors import (
    Dipped, Flat, Lifted, NoChoice, NoCover, NoLine, NoName, NoNumber, NoRow,
    NoSaying, NotOne, NoTable, NoText, SlackError,
)

ROW = [(1, 2), (-3, 1)]
OTHER_ROW = [(0, 1), (5, 7)]

# Each with its fields and two unlike sets of what it is made of.
WITH_FIELDS = [
    (NoNumber, ("top",), (7,), (-10 ** 999,)),
    (NoTable, ("place",), (-1,), (4,)),
    (Flat, ("choice",), ("010",), ("1",)),
    (Lifted, ("row", "column"), (0, 3), (4, 1)),
    (Dipped, ("row",), (ROW,), (OTHER_ROW,)),
    (NotOne, ("choice",), ("11",), ("00001",)),
    (NoName, ("name",), ("a",), ("letters",)),
]
WITHOUT_FIELDS = [NoRow, NoChoice, NoSaying, NoCover, NoText, NoLine]


def fields_of(error, names):
    return tuple(getattr(error, name) for name in names)


class ClassesTest(unittest.TestCase):
    def test_slack_error_stands_straight_under_value_error(self):
        self.assertEqual(SlackError.__bases__, (ValueError,))

    def test_each_refusal_stands_straight_under_slack_error(self):
        refusals = [entry[0] for entry in WITH_FIELDS] + WITHOUT_FIELDS
        self.assertEqual(len(set(refusals)), 13)
        for refusal in refusals:
            with self.subTest(refusal=refusal.__name__):
                self.assertEqual(refusal.__bases__, (SlackError,))
                self.assertEqual(refusal.__module__, "eitherslack.errors")
                self.assertIs(getattr(errors, refusal.__name__), refusal)

    def test_one_refusal_is_not_caught_as_another(self):
        refusals = [entry[0] for entry in WITH_FIELDS] + WITHOUT_FIELDS
        for one in refusals:
            for other in refusals:
                self.assertEqual(issubclass(one, other), one is other)


class FieldsTest(unittest.TestCase):
    def test_made_by_places(self):
        for refusal, names, made_of, others in WITH_FIELDS:
            with self.subTest(refusal=refusal.__name__):
                self.assertEqual(fields_of(refusal(*made_of), names), made_of)
                self.assertEqual(fields_of(refusal(*others), names), others)

    def test_made_by_names(self):
        for refusal, names, made_of, others in WITH_FIELDS:
            with self.subTest(refusal=refusal.__name__):
                self.assertEqual(fields_of(refusal(**dict(zip(names, made_of))), names), made_of)
                turned_about = dict(reversed(list(zip(names, others))))
                self.assertEqual(fields_of(refusal(**turned_about), names), others)

    def test_fields_stay_while_others_are_made(self):
        for refusal, names, made_of, others in WITH_FIELDS:
            with self.subTest(refusal=refusal.__name__):
                first = refusal(*made_of)
                second = refusal(*others)
                self.assertEqual(fields_of(first, names), made_of)
                self.assertEqual(fields_of(second, names), others)

    def test_raised_with_its_fields(self):
        for refusal, names, made_of, others in WITH_FIELDS:
            with self.subTest(refusal=refusal.__name__):
                with self.assertRaises(SlackError) as caught:
                    raise refusal(*made_of)
                self.assertIs(type(caught.exception), refusal)
                self.assertEqual(fields_of(caught.exception, names), made_of)
                self.assertIsInstance(str(caught.exception), str)

    def test_a_great_top_can_be_shown(self):
        # Python refuses to write numbers of more than 4300 figures.
        self.assertIsInstance(str(NoNumber(10 ** 5000)), str)

    def test_dipped_row_is_its_own_list(self):
        handed = list(ROW)
        first = Dipped(handed)
        second = Dipped(row=handed)
        self.assertIs(type(first.row), list)
        handed.append((9, 1))
        self.assertEqual(first.row, ROW)
        first.row.clear()
        self.assertEqual(second.row, ROW)
        self.assertEqual(handed, ROW + [(9, 1)])


class TextsTest(unittest.TestCase):
    def test_made_without_a_text(self):
        for refusal in [SlackError] + WITHOUT_FIELDS:
            with self.subTest(refusal=refusal.__name__):
                self.assertIs(type(refusal()), refusal)
                with self.assertRaises(refusal):
                    raise refusal()

    def test_made_with_a_text(self):
        for refusal in [SlackError] + WITHOUT_FIELDS:
            with self.subTest(refusal=refusal.__name__):
                first = refusal("one text")
                second = refusal("")
                self.assertEqual(str(first), "one text")
                self.assertEqual(str(second), "")


if __name__ == "__main__":
    unittest.main()
