"""Points [2], [3] and [10]: tables, starts and presses exchanged at a choice."""

import random
import unittest
from fractions import Fraction

from eitherslack.answers import is_answer
from eitherslack.errors import Flat, NoChoice, NoRow
from eitherslack.exchanges import exchanged, exchanged_presses, exchanged_start
from eitherslack.tables import Table
from reckoning import (
    PLACES, SlackCase, all_choices, answers_start, gaps_of, minor_of, random_row, read_row, read_rows,
    sample_rows, several_answers, answers_of, times_of, told, told_row, told_rows,
)

GREATEST = 10 ** 1000 - 1


def each_exchange(count=8, seed=1):
    """Rows and each choice whose minor is not 0."""
    for many in PLACES:
        for rows in sample_rows(many, count if many < 5 else 4, seed):
            for choice in all_choices(many):
                if minor_of(rows, choice) != 0:
                    yield rows, choice


def chosen_from(choice, chosen, others):
    return [one if sign == "1" else other for sign, one, other in zip(choice, chosen, others)]


def both_places(one, other):
    """The places that are in just one of two choices."""
    return "".join("1" if sign != mark else "0" for sign, mark in zip(one, other))


def unit_rows(many):
    return [[Fraction(1 if row == column else 0) for column in range(many)] for row in range(many)]


class ExchangedTest(SlackCase):
    def test_the_rows_lead_to_one_another(self):
        source = random.Random(1)
        for rows, choice in each_exchange():
            many = len(rows)
            answer = self.asked_each_way(exchanged, table=Table(told_rows(rows)), choice=choice)
            self.assertIs(type(answer), Table)
            exchanged_rows = read_rows(answer.rows())
            for presses in unit_rows(many) + [random_row(source, many)]:
                lifts = times_of(rows, presses)
                self.assertEqual(times_of(exchanged_rows, chosen_from(choice, lifts, presses)),
                                 chosen_from(choice, presses, lifts))

    def test_twice_it_is_the_first_one_again(self):
        source = random.Random(2)
        for rows, choice in each_exchange():
            table, start = Table(told_rows(rows)), told_row(random_row(source, len(rows)))
            other = exchanged(table, choice)
            self.assertEqual(exchanged(other, choice), table)
            self.assertEqual(exchanged_start(other, exchanged_start(table, start, choice), choice), start)

    def test_the_minors(self):
        for rows, choice in each_exchange(4):
            answer = exchanged(Table(told_rows(rows)), choice)
            for other in all_choices(len(rows)):
                wanted = minor_of(rows, both_places(choice, other)) / minor_of(rows, choice)
                self.assertEqual(answer.minor(other), told(wanted))

    def test_none_chosen(self):
        source = random.Random(3)
        for many in PLACES:
            for rows in sample_rows(many, 8) + [[[Fraction(0)] * many] * many]:
                table, start = Table(told_rows(rows)), told_row(random_row(source, many))
                presses = told_row(random_row(source, many))
                self.assertEqual(exchanged(table, "0" * many), table)
                self.assertEqual(exchanged_start(table, start, "0" * many), start)
                self.assertEqual(exchanged_presses(table, start, "0" * many, presses), presses)

    def test_by_hand(self):
        table = Table([[(2, 1), (3, 1)], [(5, 1), (7, 1)]])
        self.assertEqual(str(exchanged(table, "10")), "1/2 -3/2; 5/2 -1/2")
        self.assertEqual(str(exchanged(table, "11")), "-7 3; 5 -2")
        self.assertEqual(exchanged_start(table, [(4, 1), (1, 1)], "10"), [(-2, 1), (-9, 1)])
        self.assertEqual(exchanged_start(table, [(4, 1), (1, 1)], "11"), [(25, 1), (-18, 1)])
        self.assertEqual(exchanged_presses(table, [(4, 1), (1, 1)], "10", [(1, 1), (-1, 1)]), [(3, 1), (-1, 1)])
        # With noughts on the diagonal the two places can be exchanged together alone.
        swap = Table([[(0, 1), (1, 1)], [(1, 1), (0, 1)]])
        self.assertEqual(exchanged(swap, "11"), swap)

    def test_great_numbers(self):
        rows = [[Fraction(GREATEST, 7), Fraction(-1, GREATEST)], [Fraction(3), Fraction(GREATEST - 1, GREATEST)]]
        start = [Fraction(-GREATEST, 11), Fraction(7, GREATEST - 2)]
        table = Table(told_rows(rows))
        for choice in all_choices(2):
            other = exchanged(table, choice)
            other_start = exchanged_start(table, told_row(start), choice)
            # No assertEqual: Python refuses to show numbers of more than 4300 figures where it fails.
            self.assertTrue(exchanged(other, choice) == table)
            self.assertTrue(exchanged_start(other, other_start, choice) == told_row(start))

    def test_told_lists_are_new_ones(self):
        table, start = Table([[(1, 1)]]), [(3, 1)]
        presses = [(2, 1)]
        for choice in ("0", "1"):
            kept = exchanged_start(table, start, choice)
            exchanged_start(table, start, choice).clear()
            exchanged_presses(table, start, choice, presses).clear()
            self.assertEqual(exchanged_start(table, start, choice), kept)
            self.assertIsNot(exchanged(table, choice), table)
        self.assertEqual((start, presses), ([(3, 1)], [(2, 1)]))


class StartAndPressesTest(SlackCase):
    def test_the_exchanged_table_does_the_same_with_the_start(self):
        source = random.Random(4)
        for rows, choice in each_exchange():
            many = len(rows)
            table, start = Table(told_rows(rows)), random_row(source, many)
            other_start = self.asked_each_way(exchanged_start, table=table, start=told_row(start), choice=choice)
            self.check_row(other_start, read_row(other_start))
            exchanged_rows = read_rows(exchanged(table, choice).rows())
            for presses in (random_row(source, many), [Fraction(0)] * many):
                row = gaps_of(rows, start, presses)
                others = self.asked_each_way(
                    exchanged_presses, table=table, start=told_row(start), choice=choice, presses=told_row(presses))
                self.check_row(others, chosen_from(choice, row, presses))
                self.assertEqual(gaps_of(exchanged_rows, read_row(other_start), read_row(others)),
                                 chosen_from(choice, presses, row))

    def check_answers(self, rows, start, presses):
        """Whether the presses are an answer is so of the exchanged ones too."""
        table, handed = Table(told_rows(rows)), told_row(start)
        wanted = answers_start(rows, start, presses)
        for choice in all_choices(len(rows)):
            if minor_of(rows, choice) != 0:
                others = exchanged_presses(table, handed, choice, told_row(presses))
                answer = is_answer(exchanged(table, choice), exchanged_start(table, handed, choice), others)
                self.assertIs(answer, wanted)

    def test_answers_stay_answers(self):
        for many in (1, 2, 3):
            rows, start = several_answers(many)
            for presses in answers_of(rows, start):
                self.check_answers(rows, start, presses)
                for place in range(many):
                    for change in (Fraction(-1), Fraction(1, 3)):
                        other = list(presses)
                        other[place] += change
                        self.check_answers(rows, start, other)

    def test_other_presses(self):
        source = random.Random(5)
        for many in PLACES:
            for rows in sample_rows(many, 4):
                self.check_answers(rows, random_row(source, many), random_row(source, many, 1))
                self.check_answers(rows, [Fraction(0)] * many, [Fraction(0)] * many)


class RefusedTest(SlackCase):
    def test_rows_of_other_lengths(self):
        for many in PLACES:
            # Of such a table each choice with a place chosen is flat too: NoRow goes first.
            table = Table([[(0, 1)] * many for place in range(many)])
            right = [(1, 1)] * many
            for wrong in self.wrong_lengths(right):
                for choice in ("0" * many, "1" * many, "2" * many, ""):
                    self.refused(NoRow, exchanged_start, table, wrong, choice)
                    self.refused(NoRow, exchanged_start, choice=choice, start=wrong, table=table)
                    for start, presses in ((wrong, right), (right, wrong), (wrong, wrong)):
                        self.refused(NoRow, exchanged_presses, table, start, choice, presses)
                        self.refused(NoRow, exchanged_presses, presses=presses, choice=choice, start=start,
                                     table=table)

    def test_texts_that_are_no_choice(self):
        for many in PLACES:
            table = Table([[(0, 1)] * many for place in range(many)])
            row = [(1, 1)] * many
            for text in ("", "1" * (many - 1), "1" * (many + 1), "2" * many, "1" * (many - 1) + " ", "0" * many + "\n"):
                self.refused(NoChoice, exchanged, table, text)
                self.refused(NoChoice, exchanged, choice=text, table=table)
                self.refused(NoChoice, exchanged_start, table, row, text)
                self.refused(NoChoice, exchanged_presses, table, row, text, row)
                self.refused(NoChoice, exchanged_presses, table, row, presses=row, choice=text)

    def test_flat_choices(self):
        refused = 0
        for many in PLACES:
            for rows in sample_rows(many, 8, seed=5) + [[[Fraction(1)] * many] * many]:
                table, row = Table(told_rows(rows)), [(1, 1)] * many
                for choice in all_choices(many, 1):
                    if minor_of(rows, choice) == 0:
                        refused += 1
                        first = self.refused(Flat, exchanged, table, choice)
                        second = self.refused(Flat, exchanged_start, table, row, choice)
                        third = self.refused(Flat, exchanged_presses, table, row, choice, row)
                        self.assertEqual([first.choice, second.choice, third.choice], [choice] * 3)
                self.assertEqual(table.rows(), told_rows(rows))
        self.assertGreater(refused, 50)

    def test_the_field_stays_while_others_are_made(self):
        table = Table([[(0, 1), (0, 1)], [(0, 1), (0, 1)]])
        errors = [self.refused(Flat, exchanged, table, choice) for choice in ("01", "10", "11")]
        self.assertEqual([error.choice for error in errors], ["01", "10", "11"])


if __name__ == "__main__":
    unittest.main()
