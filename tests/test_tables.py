"""Points [2], [3], [5] and [6]: tables, their choices and minors."""

import random
import unittest
from fractions import Fraction

from eitherslack.answers import all_answers, gaps
from eitherslack.errors import NoChoice, NoRow, NoTable, SlackError
from eitherslack.tables import Table
from reckoning import (
    PLACES, SlackCase, all_choices, cut_rows, determinant_of, few_rows, minor_of, random_row,
    sample_rows, times_of, told, told_row, told_rows, turned_rows,
)

GREATEST = 10 ** 1000 - 1


def noughts(many):
    return [[(0, 1)] * many for place in range(many)]


class MadeTest(SlackCase):
    def test_one_to_five_places(self):
        for many in PLACES:
            for rows in sample_rows(many, 8):
                table = self.asked_each_way(Table, rows=told_rows(rows))
                self.assertIs(type(table), Table)
                self.assertEqual(len(table), many)
                self.assertEqual(table.rows(), told_rows(rows))

    def test_no_rows_and_more_than_five(self):
        for many in (0, 6, 7, 10, 300):
            error = self.refused(NoTable, Table, noughts(many))
            self.assertEqual(error.place, -1)
            self.assertIsInstance(error, SlackError)
            self.assertEqual(self.refused(NoTable, Table, rows=noughts(many)).place, -1)

    def test_the_number_of_rows_goes_ahead_of_their_lengths(self):
        for rows in ([[]] * 6, [[(1, 1)]] * 6, noughts(5) + [[(1, 1)]], noughts(6)[:5] + [[]], [[]] * 300):
            self.assertEqual(self.refused(NoTable, Table, rows).place, -1)

    def test_a_list_of_another_length_at_each_place(self):
        for many in PLACES:
            for place in range(many):
                for length in (0, many - 1, many + 1, 5, 6, 300):
                    if length != many:
                        rows = noughts(many)
                        rows[place] = [(1, 1)] * length
                        self.assertEqual(self.refused(NoTable, Table, rows).place, place)
                        rows[place] = [(1, 1)] * many
                        self.assertEqual(Table(rows).rows(), rows)

    def test_the_first_of_several_wrong_rows(self):
        for many in PLACES:
            for choice in all_choices(many, 1):
                rows = [[(1, 1)] * (many + 1 if sign == "1" else many) for sign in choice]
                self.assertEqual(self.refused(NoTable, Table, rows).place, choice.index("1"))
                rows = [[(1, 1)] * (many - 1 if sign == "1" else many) for sign in choice]
                self.assertEqual(self.refused(NoTable, Table, rows).place, choice.index("1"))
            # As many numbers in each row, but other than there are rows.
            self.assertEqual(self.refused(NoTable, Table, [[(1, 1)] * (many + 1)] * many).place, 0)

    def test_the_field_stays_while_others_are_made(self):
        first = self.refused(NoTable, Table, [[(1, 1), (1, 1)], [(1, 1)]])
        second = self.refused(NoTable, Table, [])
        third = self.refused(NoTable, Table, [[], [(1, 1)]])
        self.assertEqual((first.place, second.place, third.place), (1, -1, 0))

    def test_the_same_list_mended_and_taken(self):
        rows = [[(1, 1), (2, 1)], [(3, 1)]]
        error = self.refused(NoTable, Table, rows)
        rows[1].append((4, 1))
        table = Table(rows)
        self.assertEqual(str(table), "1 2; 3 4")
        rows.append([(0, 1)] * 3)
        self.assertEqual(self.refused(NoTable, Table, rows).place, 0)
        self.assertEqual(error.place, 1)
        self.assertEqual(str(table), "1 2; 3 4")


class NeverChangesTest(SlackCase):
    def told_of(self, table, start):
        return (
            len(table), table.rows(), str(table), repr(table), table.times(start), table.turned().rows(),
            table.minor(), table.minors(), table.cut("1" * len(table)).rows(), all_answers(table, start),
            gaps(table, start, start),
        )

    def spoil(self, rows):
        for row in rows:
            row[0] = (99, 1)
            row.append((7, 1))
        rows.reverse()
        rows.append([])

    def test_what_was_handed_in_and_told_changed_behind(self):
        for many in PLACES:
            rows = few_rows(many, 1)[0]
            handed = told_rows(rows)
            start = told_row(random_row(random.Random(many), many))
            table = Table(handed)
            before = self.told_of(table, start)
            self.spoil(handed)
            self.assertEqual(self.told_of(table, start), before)
            self.spoil(table.rows())
            self.spoil(table.turned().rows())
            self.spoil(table.cut("1" * many).rows())
            table.times(start).clear()
            table.minors().clear()
            for presses in all_answers(table, start):
                presses.clear()
            self.assertEqual(self.told_of(table, start), before)
            self.assertEqual(table, Table(told_rows(rows)))

    def test_one_list_at_several_places(self):
        row = [(1, 1), (2, 1)]
        table = Table([row, row])
        first, second = table.rows()
        first[0] = (5, 1)
        self.assertEqual(second, [(1, 1), (2, 1)])
        row[0] = (6, 1)
        self.assertEqual(table.rows(), [[(1, 1), (2, 1)], [(1, 1), (2, 1)]])

    def test_told_lists_are_new_ones(self):
        table = Table([[(1, 1), (2, 1)], [(3, 1), (4, 1)]])
        first, second = table.rows(), table.rows()
        self.assertIsNot(first, second)
        self.assertEqual(len({id(row) for row in first + second}), 4)
        self.assertIsNot(table.turned(), table.turned())
        self.assertIsNot(table.cut("11"), table)

    def test_what_is_refused_changes_nothing(self):
        table = Table([[(1, 1), (2, 1)], [(3, 1), (4, 1)]])
        before = self.told_of(table, [(1, 1), (1, 1)])
        self.refused(NoRow, table.times, [(1, 1)])
        self.refused(NoChoice, table.cut, "00")
        self.refused(NoChoice, table.minor, "1")
        self.assertEqual(self.told_of(table, [(1, 1), (1, 1)]), before)


class EqualTest(SlackCase):
    def test_tables_of_like_rows(self):
        for many in PLACES:
            rows = told_rows(sample_rows(many, 4)[3])
            self.assertIs(Table(rows) == Table(told_rows(sample_rows(many, 4)[3])), True)
            self.assertIs(Table(rows) != Table(rows), False)
            self.assertIs(Table(rows).turned().turned() == Table(rows), True)

    def test_each_number_counts(self):
        for many in PLACES:
            rows = told_rows(sample_rows(many, 4)[3])
            for row in range(many):
                for column in range(many):
                    others = [list(numbers) for numbers in rows]
                    top, bottom = others[row][column]
                    others[row][column] = (top + bottom, bottom)
                    self.assertIs(Table(rows) == Table(others), False)
                    self.assertIs(Table(rows) != Table(others), True)

    def test_tables_of_other_lengths(self):
        tables = [Table(noughts(many)) for many in PLACES]
        for one in range(5):
            for other in range(5):
                self.assertIs(tables[one] == tables[other], one == other)
                self.assertIs(tables[one] != tables[other], one != other)

    def test_nothing_else_is_alike(self):
        rows = [[(1, 1), (2, 1)], [(3, 1), (4, 1)]]
        table = Table(rows)
        others = [rows, tuple(map(tuple, rows)), "1 2; 3 4", "Table(1 2; 3 4)", None, 1, True, (), Table]
        for other in others:
            self.assertIs(table == other, False)
            self.assertIs(other == table, False)
            self.assertIs(table != other, True)
            self.assertIs(other != table, True)

    def test_a_list_finds_a_table(self):
        tables = [None, "1 2; 3 4", Table([[(1, 1)]]), Table([[(1, 1), (2, 1)], [(3, 1), (4, 1)]])]
        self.assertIn(Table([[(1, 1), (2, 1)], [(3, 1), (4, 1)]]), tables)
        self.assertEqual(tables.index(Table([[(1, 1)]])), 2)
        self.assertNotIn(Table([[(1, 1), (2, 1)], [(3, 1), (5, 1)]]), tables)


class TextTest(SlackCase):
    def test_by_hand(self):
        table = Table([[(1, 1), (-2, 3)], [(0, 1), (-10, 1)]])
        self.assertEqual(str(table), "1 -2/3; 0 -10")
        self.assertEqual(repr(table), "Table(1 -2/3; 0 -10)")
        self.assertEqual(str(Table([[(0, 1)]])), "0")
        self.assertEqual(repr(Table([[(-1, 20)]])), "Table(-1/20)")

    def test_samples(self):
        for many in PLACES:
            for rows in sample_rows(many, 8):
                wanted = "; ".join(" ".join(str(number) for number in row) for row in rows)
                self.assertEqual(str(Table(told_rows(rows))), wanted)
                self.assertEqual(repr(Table(told_rows(rows))), "Table(" + wanted + ")")

    def test_great_numbers(self):
        self.assertEqual(str(Table([[(GREATEST, 1)]])), "9" * 1000)
        self.assertEqual(str(Table([[(-GREATEST, GREATEST - 1)]])), "-" + "9" * 1000 + "/" + "9" * 999 + "8")
        for figures in range(60, 140):
            self.assertEqual(str(Table([[(10 ** figures, 1)]])), "1" + "0" * figures)
            self.assertEqual(str(Table([[(10 ** figures - 1, 1)]])), "9" * figures)
            self.assertEqual(str(Table([[(-1, 10 ** figures + 7)]])), "-1/1" + "0" * (figures - 1) + "7")

    def test_more_figures_than_python_writes(self):
        table = Table([[(10 ** 4400 + 5, 1), (-10 ** 4000, 3)], [(1, 10 ** 9000 + 1), (0, 1)]])
        wanted = "1" + "0" * 4399 + "5 -1" + "0" * 4000 + "/3; 1/1" + "0" * 8999 + "1 0"
        self.assertTrue(str(table) == wanted)
        self.assertTrue(repr(table) == "Table(" + wanted + ")")


class TimesTest(SlackCase):
    def test_samples(self):
        source = random.Random(5)
        for many in PLACES:
            for rows in sample_rows(many, 12):
                row = random_row(source, many)
                table = Table(told_rows(rows))
                answer = self.asked_each_way(table.times, row=told_row(row))
                self.check_row(answer, times_of(rows, row))

    def test_by_hand(self):
        table = Table([[(1, 1), (2, 1)], [(-1, 2), (0, 1)]])
        self.assertEqual(table.times([(3, 1), (-1, 4)]), [(5, 2), (-3, 2)])
        self.assertEqual(table.times([(0, 1), (0, 1)]), [(0, 1), (0, 1)])

    def test_great_numbers(self):
        rows = [[Fraction(GREATEST, 7), Fraction(-1, GREATEST)], [Fraction(3), Fraction(GREATEST - 1, GREATEST)]]
        row = [Fraction(-GREATEST, 11), Fraction(7, GREATEST - 2)]
        self.check_row(Table(told_rows(rows)).times(told_row(row)), times_of(rows, row))

    def test_rows_of_other_lengths_are_refused(self):
        for many in PLACES:
            table = Table(noughts(many))
            for row in self.wrong_lengths([(1, 1)] * many):
                self.refused(NoRow, table.times, row)
                self.refused(NoRow, table.times, row=row)


class TurnedTest(SlackCase):
    def test_samples(self):
        for many in PLACES:
            for rows in sample_rows(many, 8):
                table = Table(told_rows(rows))
                turned = self.asked(table.turned)
                self.assertIs(type(turned), Table)
                self.assertEqual(turned.rows(), told_rows(turned_rows(rows)))
                self.assertEqual(table.rows(), told_rows(rows))
                self.assertEqual(turned.turned(), table)


class CutTest(SlackCase):
    def test_each_choice(self):
        for many in PLACES:
            for rows in sample_rows(many, 4):
                table = Table(told_rows(rows))
                for choice in all_choices(many, 1):
                    answer = self.asked_each_way(table.cut, choice=choice)
                    self.assertIs(type(answer), Table)
                    self.assertEqual(answer.rows(), told_rows(cut_rows(rows, choice)))

    def test_none_chosen_is_refused(self):
        for many in PLACES:
            self.refused(NoChoice, Table(noughts(many)).cut, "0" * many)
            self.refused(NoChoice, Table(noughts(many)).cut, choice="0" * many)


class MinorTest(SlackCase):
    def check_minors(self, rows):
        table = Table(told_rows(rows))
        many = len(rows)
        for choice in all_choices(many):
            answer = self.asked(table.minor, choice)
            self.check_plain(answer)
            self.assertEqual(answer, told(minor_of(rows, choice)), (rows, choice))
        for whole in (table.minor(), table.minor(None), table.minor(choice=None), table.minor("1" * many)):
            self.assertEqual(whole, told(determinant_of(rows)))
        for least in range(many + 2):
            wanted = told_row([minor_of(rows, choice) for choice in all_choices(many, least)])
            self.assertEqual(self.asked_each_way(table.minors, least=least), wanted)
        self.check_row(table.minors(), [minor_of(rows, choice) for choice in all_choices(many, 1)])

    def test_samples(self):
        for many in PLACES:
            for rows in sample_rows(many, 12):
                self.check_minors(rows)

    def test_two_rows_alike_and_other_minors_of_nought(self):
        for many in range(2, 6):
            for rows in sample_rows(many, 4, seed=2):
                alike = [list(row) for row in rows]
                alike[many - 1] = list(alike[0])
                self.assertEqual(Table(told_rows(alike)).minor(), (0, 1))
                self.check_minors(alike)
                summed = [list(row) for row in rows]
                summed[0] = [sum(column) for column in zip(*summed[1:])]
                self.assertEqual(Table(told_rows(summed)).minor(), (0, 1))
                self.check_minors(summed)
        for many in PLACES:
            self.check_minors([[Fraction(0)] * many for place in range(many)])
            self.check_minors([[Fraction(1)] * many for place in range(many)])

    def test_noughts_where_a_pivot_would_be(self):
        source = random.Random(8)
        for many in PLACES:
            for turn in range(10):
                order = source.sample(range(many), many)
                rows = [[Fraction(2 + row if order[row] == column else 0) for column in range(many)]
                        for row in range(many)]
                self.check_minors(rows)
                rows[0][many - 1] += 1
                self.check_minors(rows)

    def test_by_hand(self):
        table = Table([[(1, 1), (2, 1)], [(3, 1), (4, 1)]])
        self.assertEqual([table.minor(choice) for choice in ("00", "01", "10", "11")],
                         [(1, 1), (4, 1), (1, 1), (-2, 1)])
        self.assertEqual(table.minors(), [(4, 1), (1, 1), (-2, 1)])
        self.assertEqual(table.minors(0), [(1, 1), (4, 1), (1, 1), (-2, 1)])
        self.assertEqual(table.minors(2), [(-2, 1)])
        self.assertEqual(table.minors(least=3), [])
        self.assertEqual(table.minors(10 ** 999), [])

    def test_great_numbers(self):
        source = random.Random(3)
        for many in (1, 2, 3):
            self.check_minors([[Fraction(source.randint(-GREATEST, GREATEST), source.randint(1, GREATEST))
                                for column in range(many)] for row in range(many)])


class NoChoiceTest(SlackCase):
    def wrong_texts(self, many):
        texts = ["", "0" * (many - 1), "1" * (many - 1), "0" * (many + 1), "1" * (many + 1), "1" * 2000, "none"]
        for sign in ("2", "a", " ", "-", "\n", "\u0661"):
            texts += ["1" * at + sign + "0" * (many - at - 1) for at in range(many)]
            texts += ["1" * many + sign, sign + "1" * many]
        return texts

    def test_texts_that_are_no_choice(self):
        for many in PLACES:
            table = Table(noughts(many))
            for text in self.wrong_texts(many):
                with self.subTest(many=many, text=text[:9]):
                    self.refused(NoChoice, table.cut, text)
                    self.refused(NoChoice, table.cut, choice=text)
                    self.refused(NoChoice, table.minor, text)
                    self.refused(NoChoice, table.minor, choice=text)


if __name__ == "__main__":
    unittest.main()
