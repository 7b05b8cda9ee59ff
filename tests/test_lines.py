"""Points [2], [3] and [18]: the answers along a line of starts."""

import random
import unittest
from fractions import Fraction

from eitherslack.errors import NoRow, NotOne
from eitherslack.lines import along, answer_at
from eitherslack.tables import Table
from papers import GREATEST, each_kind, some_start, steep_rows
from reckoning import (
    PLACES, SlackCase, all_choices, answers_of, answers_start, minor_of, random_row, read, read_row, several_answers,
    told, told_row, told_rows,
)


def is_one(rows):
    return all(minor_of(rows, choice) > 0 for choice in all_choices(len(rows)))


def tables_with_one_answer(many, count, seed=1):
    source = random.Random(100 * seed + many)
    found = [rows for rows in each_kind(many, count, seed) if is_one(rows)]
    return found + [steep_rows(source, many) for turn in range(count)]


def bent_rows(many):
    """Rows of which the answers along a line have many pieces: 1 on the diagonal, 2 below it, 0 above."""
    return [[Fraction(1 if i == j else 2 if j < i else 0) for j in range(many)] for i in range(many)]


def put_to(start, step, moment):
    return [number + moment * growth for number, growth in zip(start, step)]


class AlongCase(SlackCase):
    def walked(self, rows, start, step):
        """The pieces that are told, in their told form and right at many moments."""
        pieces = along(Table(told_rows(rows)), told_row(start), told_row(step))
        self.assertIs(type(pieces), list)
        for piece in pieces:
            self.assertIs(type(piece), tuple)
            self.assertEqual(len(piece), 3)
            self.check_plain(piece[0])
            self.assertEqual([type(part) for part in piece[1:]], [list, list])
        parts = [(read(begin), read_row(presses), read_row(rate)) for begin, presses, rate in pieces]
        self.assertEqual(parts[0][0], 0)
        for one, other in zip(parts, parts[1:]):
            self.assertLess(one[0], other[0])
            self.assertNotEqual(one[2], other[2])
        ends = [part[0] for part in parts[1:]] + [parts[-1][0] + 10 ** 9]
        for (begin, presses, rate), end in zip(parts, ends):
            for moment in (begin, (begin + end) / 2, begin + (end - begin) / 10 ** 6, end - (end - begin) / 10 ** 6, end):
                self.check_moment(rows, put_to(start, step, moment), put_to(presses, rate, moment - begin))
                answer = answer_at(pieces, told(moment))
                self.check_row(answer, put_to(presses, rate, moment - begin))
        return pieces

    def check_moment(self, rows, start, presses):
        self.assertTrue(answers_start(rows, start, presses), (rows, start, presses))


class AlongTest(AlongCase):
    def test_tables_of_many_kinds(self):
        source = random.Random(1)
        seen = set()
        for many in PLACES:
            for rows in tables_with_one_answer(many, 6):
                pieces = self.walked(rows, some_start(source, many), random_row(source, many))
                seen.add((many, min(len(pieces), 2)))
        self.assertEqual(len(seen), 2 * len(PLACES))

    def test_bent_rows(self):
        source = random.Random(2)
        for many in PLACES:
            for turn in range(5):
                start = [Fraction(-source.randint(0, 4 ** place)) for place in range(many)]
                step = [Fraction(source.randint(1, 3), 2 ** place) for place in range(many)]
                self.walked(bent_rows(many), start, step)
            # All choices come by, one after the other.
            start = [Fraction(2 ** (many - 1 - place)) for place in range(many)]
            self.assertEqual(len(self.walked(bent_rows(many), start, [Fraction(-1)] * many)), 2 ** many)

    def test_starts_that_are_not_clean(self):
        """Small numbers: at many begins several presses and gaps become 0 at once."""
        source = random.Random(3)
        for many in PLACES:
            for rows in [bent_rows(many)] + [
                    [[Fraction(3 * many if i == j else source.randint(-1, 1)) for j in range(many)] for i in range(many)]
                    for turn in range(4)]:
                for turn in range(5):
                    start = [Fraction(source.randint(-1, 1)) for place in range(many)]
                    step = [Fraction(source.randint(-1, 1)) for place in range(many)]
                    self.walked(rows, start, step)
                self.walked(rows, [Fraction(0)] * many, step)

    def test_a_step_of_noughts(self):
        source = random.Random(4)
        for many in PLACES:
            for rows in tables_with_one_answer(many, 2, seed=4):
                start = some_start(source, many)
                pieces = self.walked(rows, start, [Fraction(0)] * many)
                self.assertEqual(pieces, [((0, 1), told_row(answers_of(rows, start)[0]), told_row([0] * many))])

    def test_by_hand(self):
        rows = [[Fraction(1)]]
        self.assertEqual(self.walked(rows, [Fraction(-2)], [Fraction(1)]),
                         [((0, 1), [(2, 1)], [(-1, 1)]), ((2, 1), [(0, 1)], [(0, 1)])])
        self.assertEqual(self.walked(rows, [Fraction(2)], [Fraction(1)]), [((0, 1), [(0, 1)], [(0, 1)])])
        self.assertEqual(self.walked(rows, [Fraction(0)], [Fraction(-1)]), [((0, 1), [(0, 1)], [(1, 1)])])
        self.assertEqual(self.walked(rows, [Fraction(1)], [Fraction(-3)]),
                         [((0, 1), [(0, 1)], [(0, 1)]), ((1, 3), [(0, 1)], [(3, 1)])])
        rows = [[Fraction(2), Fraction(1)], [Fraction(1), Fraction(2)]]
        self.assertEqual(self.walked(rows, [Fraction(-3), Fraction(1)], [Fraction(1), Fraction(-1)]), [
            ((0, 1), [(3, 2), (0, 1)], [(-1, 2), (0, 1)]), ((5, 3), [(2, 3), (0, 1)], [(-1, 1), (1, 1)]),
            ((7, 3), [(0, 1), (2, 3)], [(0, 1), (1, 2)])])

    def test_great_numbers(self):
        rows = [[Fraction(GREATEST), Fraction(-1, GREATEST)], [Fraction(GREATEST, 7), Fraction(1, 3)]]
        start, step = [Fraction(-GREATEST), Fraction(-1, GREATEST)], [Fraction(1, GREATEST), Fraction(-GREATEST, 3)]
        self.walked(rows, start, step)
        self.walked(rows, step, start)


class AnswerAtTest(AlongCase):
    def test_drawn_moments(self):
        source = random.Random(5)
        for many in PLACES:
            for rows in tables_with_one_answer(many, 2, seed=5):
                start, step = some_start(source, many), random_row(source, many)
                pieces = along(Table(told_rows(rows)), told_row(start), told_row(step))
                for moment in [Fraction(0), Fraction(10 ** 30), Fraction(1, GREATEST)] + [
                        Fraction(source.randint(0, 60), source.randint(1, 20)) for turn in range(8)]:
                    answer = self.asked_each_way(answer_at, pieces=pieces, moment=told(moment))
                    self.check_row(answer, answers_of(rows, put_to(start, step, moment))[0])

    def test_told_lists_are_new_ones(self):
        pieces = along(Table([[(1, 1)]]), [(-2, 1)], [(0, 1)])
        for moment in ((0, 1), (5, 1)):
            answer = self.check_own(lambda: answer_at(pieces, moment), pieces)
            self.assertEqual(answer, [(2, 1)])
        self.assertEqual(pieces, [((0, 1), [(2, 1)], [(0, 1)])])


class OwnTest(AlongCase):
    def test_by_names_and_told_pieces_changed(self):
        source = random.Random(6)
        for many in PLACES:
            for rows in tables_with_one_answer(many, 1, seed=6):
                table, start, step = Table(told_rows(rows)), told_row(some_start(source, many)), [(-1, 2)] * many
                self.asked_each_way(along, table=table, start=start, step=step)
                self.check_own(lambda: along(table, start, step), start, step)


class RefusedTest(AlongCase):
    def test_not_one_with_the_first_choice(self):
        found = 0
        for many in PLACES:
            row = [(1, 1)] * many
            for rows in list(each_kind(many, 4, seed=7)) + [several_answers(many)[0]]:
                wrong = [choice for choice in all_choices(many) if minor_of(rows, choice) <= 0]
                table = Table(told_rows(rows))
                if not wrong:
                    self.walked(rows, [Fraction(-1)] * many, [Fraction(1)] * many)
                    continue
                found += 1
                self.assertEqual(self.refused(NotOne, along, table, row, row).choice, wrong[0])
                self.assertEqual(self.refused(NotOne, along, step=row, start=row, table=table).choice, wrong[0])
        self.assertGreater(found, 50)

    def test_no_row_goes_ahead(self):
        for many in PLACES:
            right = [(1, 1)] * many
            for rows in each_kind(many, 1, seed=8):
                table = Table(told_rows(rows))
                for wrong in self.wrong_lengths(right):
                    self.refused(NoRow, along, table, wrong, right)
                    self.refused(NoRow, along, table, right, wrong)
                    self.refused(NoRow, along, step=wrong, start=wrong, table=table)


if __name__ == "__main__":
    unittest.main()
