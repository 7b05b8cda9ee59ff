"""Points [2], [3] and [17]: the signs of answers, and clean starts."""

import random
import unittest
from fractions import Fraction

from eitherslack.errors import Flat, NoRow
from eitherslack.exchanges import exchanged
from eitherslack.finder import settled
from eitherslack.signs import clean, turning
from eitherslack.tables import Table
from papers import GREATEST, each_kind, renamed_rows, some_start
from reckoning import (
    PLACES, SlackCase, all_choices, answers_of, answers_start, few_rows, gaps_of, minor_of, random_row, sample_rows,
    several_answers, text_of, times_of, told_row, told_rows,
)


def is_few(rows):
    return all(minor_of(rows, choice) != 0 for choice in all_choices(len(rows)))


def few_of_each_kind(many, count, seed):
    return [rows for rows in each_kind(many, count, seed) if is_few(rows)]


def clean_by_words(rows, start):
    return all(press > 0 or gap > 0 for presses in answers_of(rows, start)
               for press, gap in zip(presses, gaps_of(rows, start, presses)))


def signs_of(rows, start):
    """What the answers come to, gone through by all choices."""
    return sum(1 if minor_of(rows, text_of(presses)) > 0 else -1 for presses in answers_of(rows, start))


def clean_starts(source, rows, count):
    found = []
    while len(found) < count:
        start = some_start(source, len(rows))
        if clean_by_words(rows, start):
            found.append(start)
    return found


def touching_start(source, rows):
    """A start with an answer that has a press and a gap of 0 at one place."""
    many = len(rows)
    presses = [abs(number) + 1 if source.randint(0, 1) else Fraction(0) for number in random_row(source, many)]
    gaps = [Fraction(0) if press > 0 else Fraction(source.randint(1, 5)) for press in presses]
    place = source.randrange(many)
    presses[place] = gaps[place] = Fraction(0)
    return [gap - lift for gap, lift in zip(gaps, times_of(rows, presses))], presses


class TurningTest(SlackCase):
    def turning_of(self, rows):
        answer = turning(Table(told_rows(rows)))
        self.assertIs(type(answer), int)
        return answer

    def test_clean_starts_come_to_it(self):
        source = random.Random(1)
        seen = set()
        for many in (1, 2, 3, 4):
            for rows in few_rows(many, 15) + few_of_each_kind(many, 6, seed=1):
                wanted = self.turning_of(rows)
                seen.add(wanted)
                for start in clean_starts(source, rows, 6 if many < 4 else 3):
                    self.assertEqual(signs_of(rows, start), wanted, (rows, start))
        self.assertTrue({-1, 0, 1} <= seen, seen)

    def test_five_places(self):
        source = random.Random(2)
        for rows in few_rows(5, 3):
            wanted = self.turning_of(rows)
            for start in clean_starts(source, rows, 2):
                self.assertEqual(signs_of(rows, start), wanted)

    def test_by_hand(self):
        for text, wanted in {"1": 1, "-1": 0, "2 1; 1 2": 1, "1 2; 2 1": 1, "-1 2; 2 -1": -1, "1 -2; -2 1": 0,
                             "-1 1/2; 1/2 -1": 0, "-3 1; 1 -3": 0}.items():
            rows = [[Fraction(word) for word in line.split()] for line in text.split("; ")]
            self.assertEqual(self.turning_of(rows), wanted, text)

    def test_tables_whose_plain_starts_are_not_clean(self):
        """Starts of ones, or of powers, are just not clean here."""
        for text in ("1 2; 2 1", "-1 1; 1 -2", "1 2; 3 -1", "-1 2; 2 -1", "-1 2; -4 2"):
            rows = [[Fraction(word) for word in line.split()] for line in text.split("; ")]
            if is_few(rows):
                source = random.Random(text)
                wanted = self.turning_of(rows)
                for start in clean_starts(source, rows, 10):
                    self.assertEqual(signs_of(rows, start), wanted)
        for many in PLACES:
            rows = [[Fraction(-1 if i == j else 2 if (i + j) & 1 else 3) for j in range(many)] for i in range(many)]
            if is_few(rows):
                start = clean_starts(random.Random(many), rows, 1)[0]
                self.assertEqual(signs_of(rows, start), self.turning_of(rows))

    def test_one_where_one_or_alone_is_so(self):
        found = 0
        for many in PLACES:
            for rows in few_of_each_kind(many, 8, seed=3):
                table = Table(told_rows(rows))
                if settled(table, ("one",))[0] or settled(table, ("alone",))[0]:
                    found += 1
                    self.assertEqual(turning(table), 1)
        self.assertGreater(found, 40)

    def test_exchanged_scaled_and_renamed(self):
        source = random.Random(4)
        for many in (1, 2, 3, 4):
            for rows in few_rows(many, 8, seed=4):
                wanted, table = self.turning_of(rows), Table(told_rows(rows))
                for choice in all_choices(many):
                    sign = 1 if minor_of(rows, choice) > 0 else -1
                    self.assertEqual(turning(exchanged(table, choice)), sign * wanted)
                scales = [Fraction(source.randint(1, 9), source.randint(1, 9)) for place in range(2 * many)]
                scaled = [[scales[i] * scales[many + j] * rows[i][j] for j in range(many)] for i in range(many)]
                self.assertEqual(self.turning_of(scaled), wanted)
                self.assertEqual(self.turning_of(renamed_rows(rows, source.sample(range(many), many))), wanted)

    def test_great_numbers(self):
        rows = [[Fraction(GREATEST), Fraction(-1, GREATEST)], [Fraction(-GREATEST, 7), Fraction(-1, 3)]]
        start = [Fraction(GREATEST - 5), Fraction(1, GREATEST)]
        self.assertTrue(clean_by_words(rows, start))
        self.assertEqual(self.turning_of(rows), signs_of(rows, start))

    def test_flat(self):
        for many in PLACES:
            for rows in sample_rows(many, 12, seed=5) + list(each_kind(many, 2, seed=5)):
                flat = [choice for choice in all_choices(many) if minor_of(rows, choice) == 0]
                table = Table(told_rows(rows))
                if flat:
                    self.assertEqual(self.refused(Flat, turning, table).choice, flat[0])
                    self.assertEqual(self.refused(Flat, turning, table=table).choice, flat[0])
                else:
                    self.asked_each_way(turning, table=table)


class CleanTest(SlackCase):
    def check_clean(self, rows, start):
        answer = self.asked_each_way(clean, table=Table(told_rows(rows)), start=told_row(start))
        self.assertIs(answer, clean_by_words(rows, start), (rows, start))
        return answer

    def test_starts_of_all_kinds(self):
        source = random.Random(6)
        seen = set()
        for many in (1, 2, 3, 4):
            for rows in few_rows(many, 10, seed=6) + few_of_each_kind(many, 2, seed=6):
                for turn in range(3):
                    seen.add(self.check_clean(rows, some_start(source, many)))
        self.assertEqual(seen, {True, False})

    def test_a_press_and_a_gap_of_nought_at_one_place(self):
        source = random.Random(7)
        for many in PLACES:
            for rows in few_rows(many, 6 if many < 5 else 2, seed=7):
                start, presses = touching_start(source, rows)
                self.assertTrue(answers_start(rows, start, presses))
                self.assertIs(self.check_clean(rows, start), False)

    def test_noughts_and_starts_without_answers(self):
        for many in PLACES:
            for rows in few_rows(many, 4 if many < 5 else 1, seed=8):
                self.assertIs(self.check_clean(rows, [Fraction(0)] * many), False)
            rows, start = several_answers(many)
            self.assertIs(self.check_clean(rows, start), True)
            sunk = [[Fraction(-5 if i == j else -1) for j in range(many)] for i in range(many)]
            start[many - 1] = Fraction(-1)
            self.assertEqual(answers_of(sunk, start), [])
            self.assertIs(self.check_clean(sunk, start), True)

    def test_refusals(self):
        for many in PLACES:
            right = [(1, 1)] * many
            for rows in sample_rows(many, 8, seed=9) + list(each_kind(many, 1, seed=9)):
                table = Table(told_rows(rows))
                flat = [choice for choice in all_choices(many) if minor_of(rows, choice) == 0]
                for wrong in self.wrong_lengths(right):
                    self.refused(NoRow, clean, table, wrong)
                    self.refused(NoRow, clean, start=wrong, table=table)
                if flat:
                    self.assertEqual(self.refused(Flat, clean, table, right).choice, flat[0])
                    self.assertEqual(self.refused(Flat, clean, start=right, table=table).choice, flat[0])


if __name__ == "__main__":
    unittest.main()
