"""Points [2], [3], [7], [8] and [9]: gaps, presses that fit, and answers."""

import random
import unittest
from fractions import Fraction

from eitherslack.answers import all_answers, answer_by, fits, gaps, is_answer
from eitherslack.errors import Flat, NoChoice, NoRow
from eitherslack.tables import Table
from reckoning import (
    PLACES, SlackCase, all_choices, answers_of, answers_start, few_rows, fits_of, gaps_of, minor_of,
    presses_by, random_row, read_row, sample_rows, several_answers, text_of, told_row, told_rows,
)

GREATEST = 10 ** 1000 - 1


def answered_start(source, rows):
    """A start of the rows' table, and an answer of it."""
    many = len(rows)
    presses = [abs(number) * source.choice([0, 1]) for number in random_row(source, many)]
    lifts = gaps_of(rows, [Fraction(0)] * many, presses)
    wanted = [Fraction(0) if press > 0 else abs(number) for press, number in zip(presses, random_row(source, many))]
    return [gap - lift for gap, lift in zip(wanted, lifts)], presses


class GapsTest(SlackCase):
    def test_rows_of_either_sign(self):
        source = random.Random(1)
        for many in PLACES:
            for rows in sample_rows(many, 12):
                start, presses = random_row(source, many), random_row(source, many)
                answer = self.asked_each_way(
                    gaps, table=Table(told_rows(rows)), start=told_row(start), presses=told_row(presses))
                self.check_row(answer, gaps_of(rows, start, presses))

    def test_by_hand(self):
        table = Table([[(2, 1), (-1, 1)], [(1, 2), (0, 1)]])
        self.assertEqual(gaps(table, [(-1, 1), (1, 3)], [(1, 1), (2, 1)]), [(-1, 1), (5, 6)])
        self.assertEqual(gaps(table, [(-1, 1), (1, 3)], [(0, 1), (0, 1)]), [(-1, 1), (1, 3)])

    def test_told_lists_are_new_ones(self):
        table = Table([[(0, 1), (0, 1)], [(0, 1), (0, 1)]])
        start = [(1, 1), (2, 1)]
        answer = gaps(table, start, [(0, 1), (0, 1)])
        answer.clear()
        self.assertEqual(start, [(1, 1), (2, 1)])
        self.assertEqual(gaps(table, start, [(0, 1), (0, 1)]), start)

    def test_great_numbers(self):
        rows = [[Fraction(GREATEST), Fraction(-1, GREATEST)], [Fraction(GREATEST, 7), Fraction(1, 10 ** 999)]]
        start, presses = [Fraction(-GREATEST, 3), Fraction(1, GREATEST)], [Fraction(1, 3), Fraction(GREATEST, 2)]
        answer = gaps(Table(told_rows(rows)), told_row(start), told_row(presses))
        self.check_row(answer, gaps_of(rows, start, presses))
        # What was told is handed in again.
        again = gaps(Table(told_rows(rows)), answer, answer)
        self.check_row(again, gaps_of(rows, read_row(answer), read_row(answer)))


class TruthsTest(SlackCase):
    def check_truths(self, rows, start, presses):
        named = {"table": Table(told_rows(rows)), "start": told_row(start), "presses": told_row(presses)}
        fitting = self.asked_each_way(fits, **named)
        answering = self.asked_each_way(is_answer, **named)
        self.assertIs(fitting, fits_of(rows, start, presses))
        self.assertIs(answering, answers_start(rows, start, presses))
        return fitting, answering

    def test_rows_of_either_sign(self):
        source = random.Random(2)
        seen = set()
        for many in PLACES:
            for rows in sample_rows(many, 40):
                seen.add(self.check_truths(rows, random_row(source, many, 1), random_row(source, many, 1)))
        self.assertEqual(seen, {(False, False), (True, False), (True, True)})

    def test_answers_and_such_with_one_number_changed(self):
        source = random.Random(3)
        for many in PLACES:
            for rows in sample_rows(many, 12):
                start, presses = answered_start(source, rows)
                self.assertEqual(self.check_truths(rows, start, presses), (True, True))
                for place in range(many):
                    for change in (Fraction(-1), Fraction(1), Fraction(1, 7), Fraction(-1, 7)):
                        other = list(presses)
                        other[place] += change
                        self.check_truths(rows, start, other)
                        other = list(start)
                        other[place] += change
                        self.check_truths(rows, other, presses)

    def test_edges_by_hand(self):
        table = Table([[(1, 1)]])
        for start, press, fitting, answering in (
                ((-1, 1), (1, 1), True, True), ((-1, 1), (2, 1), True, False), ((-1, 1), (1, 2), False, False),
                ((0, 1), (0, 1), True, True), ((1, 1), (0, 1), True, True), ((1, 1), (-1, 1), False, False),
                ((1, 1), (1, 9), True, False), ((2, 1), (-1, 1), False, False)):
            self.assertIs(fits(table, [start], [press]), fitting)
            self.assertIs(is_answer(table, [start], [press]), answering)


class RowsRefusedTest(SlackCase):
    def test_each_list_of_another_length(self):
        for many in PLACES:
            table = Table(told_rows(sample_rows(many, 4)[0]))
            right = [(1, 1)] * many
            for wrong in self.wrong_lengths(right):
                for function in (gaps, fits, is_answer):
                    for start, presses in ((wrong, right), (right, wrong), (wrong, wrong)):
                        self.refused(NoRow, function, table, start, presses)
                        self.refused(NoRow, function, presses=presses, start=start, table=table)
                self.refused(NoRow, answer_by, table, wrong, "1" * many)
                self.refused(NoRow, answer_by, choice="0" * many, start=wrong, table=table)
                self.refused(NoRow, all_answers, table, wrong)
                self.refused(NoRow, all_answers, start=wrong, table=table, by=len, falling=True)


class AnswerByTest(SlackCase):
    def check_choice(self, rows, start, choice):
        named = {"table": Table(told_rows(rows)), "start": told_row(start), "choice": choice}
        if minor_of(rows, choice) == 0:
            self.assertEqual(self.refused(Flat, answer_by, **named).choice, choice)
            self.assertEqual(self.refused(Flat, answer_by, *named.values()).choice, choice)
            return "flat"
        answer = self.asked_each_way(answer_by, **named)
        presses = presses_by(rows, start, choice)
        if not fits_of(rows, start, presses):
            self.assertIsNone(answer)
            return "none"
        self.check_row(answer, presses)
        return "answer"

    def test_each_choice(self):
        source = random.Random(4)
        seen = set()
        for many in PLACES:
            for rows in sample_rows(many, 8):
                start = random_row(source, many)
                for choice in all_choices(many):
                    seen.add(self.check_choice(rows, start, choice))
        self.assertEqual(seen, {"flat", "none", "answer"})

    def test_starts_with_an_answer(self):
        source = random.Random(5)
        for many in PLACES:
            for rows in few_rows(many, 3):
                start, presses = answered_start(source, rows)
                self.assertEqual(answer_by(Table(told_rows(rows)), told_row(start), text_of(presses)),
                                 told_row(presses))
                for choice in all_choices(many):
                    self.check_choice(rows, start, choice)

    def test_by_hand(self):
        table = Table([[(2, 1), (1, 1)], [(1, 1), (2, 1)]])
        start = [(-3, 1), (1, 1)]
        self.assertEqual(answer_by(table, start, "10"), [(3, 2), (0, 1)])
        self.assertIsNone(answer_by(table, start, "00"))
        self.assertIsNone(answer_by(table, start, "01"))
        self.assertIsNone(answer_by(table, start, "11"))
        # Presses from 0 on, but a gap below 0.
        self.assertIsNone(answer_by(table, [(-1, 1), (-3, 1)], "10"))
        # Noughts at chosen places are an answer too.
        self.assertEqual(answer_by(table, [(0, 1), (0, 1)], "11"), [(0, 1), (0, 1)])
        self.assertEqual(answer_by(table, [(0, 1), (5, 1)], "00"), [(0, 1), (0, 1)])

    def test_the_order_of_refusals(self):
        for many in PLACES:
            table = Table([[(0, 1)] * many for place in range(many)])
            right = [(1, 1)] * many
            for wrong in self.wrong_lengths(right):
                self.refused(NoRow, answer_by, table, wrong, "2" * many)
                self.refused(NoRow, answer_by, table, wrong, "1" * many)
            for text in ("", "1" * (many + 1), "1" * (many - 1) + "2", " " + "0" * many, "x" * many):
                self.refused(NoChoice, answer_by, table, right, text)
                self.refused(NoChoice, answer_by, table, start=right, choice=text)
            for choice in all_choices(many, 1):
                self.assertEqual(self.refused(Flat, answer_by, table, right, choice).choice, choice)
            self.assertEqual(answer_by(table, right, "0" * many), [(0, 1)] * many)

    def test_told_lists_are_new_ones(self):
        table = Table([[(1, 1)]])
        answer_by(table, [(-1, 1)], "1").clear()
        self.assertEqual(answer_by(table, [(-1, 1)], "1"), [(1, 1)])


class AllAnswersTest(SlackCase):
    def test_few_tables(self):
        source = random.Random(6)
        many_seen = set()
        for many in PLACES:
            for rows in few_rows(many, 6 if many < 5 else 3):
                table = Table(told_rows(rows))
                for start in (random_row(source, many), answered_start(source, rows)[0], [Fraction(0)] * many):
                    wanted = answers_of(rows, start)
                    answer = self.asked(all_answers, table, told_row(start))
                    self.assertIs(type(answer), list)
                    self.assertEqual(answer, told_rows(wanted))
                    for presses in answer:
                        self.check_row(presses, read_row(presses))
                        self.assertIs(is_answer(table, told_row(start), presses), True)
                    self.assertEqual(all_answers(table, told_row(start), None, True), told_rows(wanted[::-1]))
                    many_seen.add(len(wanted))
        self.assertLessEqual({0, 1, 2, 3}, many_seen)

    def test_each_once(self):
        # Of a start of noughts each choice leads to the same answer.
        for many in PLACES:
            rows = [[Fraction(3 if row == column else 1) for column in range(many)] for row in range(many)]
            self.assertEqual(all_answers(Table(told_rows(rows)), [(0, 1)] * many), [[(0, 1)] * many])
        table = Table([[(-1, 1), (0, 1)], [(0, 1), (1, 1)]])
        self.assertEqual(all_answers(table, [(1, 1), (0, 1)]), [[(0, 1), (0, 1)], [(1, 1), (0, 1)]])

    def test_an_answer_for_each_choice(self):
        for many in PLACES:
            rows, start = several_answers(many)
            answer = all_answers(Table(told_rows(rows)), told_row(start))
            self.assertEqual([text_of(read_row(presses)) for presses in answer], all_choices(many))

    def test_by_names_and_left_out(self):
        rows, start = several_answers(2)
        named = {"table": Table(told_rows(rows)), "start": told_row(start), "by": len, "falling": False}
        rising = self.asked_each_way(all_answers, **named)
        self.assertEqual(all_answers(named["table"], named["start"]), rising)
        self.assertEqual(all_answers(named["table"], named["start"], None), rising)
        self.assertEqual(all_answers(named["table"], named["start"], None, False), rising)
        self.assertEqual(all_answers(start=named["start"], table=named["table"], by=None), rising)
        self.assertEqual(all_answers(named["table"], named["start"], falling=True), rising[::-1])
        self.assertEqual(all_answers(named["table"], named["start"], falling=False), rising)

    def test_told_lists_changed(self):
        rows, start = several_answers(3)
        table, handed = Table(told_rows(rows)), told_row(start)
        for named in ({}, {"falling": True}, {"by": len}, {"by": len, "falling": True}):
            first = all_answers(table, handed, **named)
            self.assertEqual(len({id(presses) for presses in first}), 8)
            kept = [list(presses) for presses in first]
            first[0].clear()
            first[1][0] = (77, 1)
            first.reverse()
            first.pop()
            self.assertEqual(all_answers(table, handed, **named), kept)

    def test_great_numbers(self):
        rows = [[Fraction(GREATEST), Fraction(1, GREATEST)], [Fraction(-GREATEST, 7), Fraction(-GREATEST + 1, 3)]]
        start = [Fraction(-GREATEST, 11), Fraction(GREATEST)]
        answer = all_answers(Table(told_rows(rows)), told_row(start))
        self.assertTrue(answer == told_rows(answers_of(rows, start)))


def pressed_places(presses):
    return sum(1 for top, bottom in presses if top > 0)


def first_pressed(presses):
    return 1 if presses[0][0] > 0 else 0


def spoiling(presses):
    many = pressed_places(presses)
    presses[0] = (99, 1)
    presses.reverse()
    presses.append((1, 1))
    return many


class ByTest(SlackCase):
    def check_order(self, by):
        for many in PLACES:
            rows, start = several_answers(many)
            table, handed = Table(told_rows(rows)), told_row(start)
            answers = told_rows(answers_of(rows, start))
            rising = sorted(answers, key=lambda presses: by(list(presses)))
            falling = sorted(answers, key=lambda presses: -by(list(presses)))
            self.assertEqual(self.asked(all_answers, table, handed, by), rising)
            self.assertEqual(self.asked(all_answers, table, handed, by, False), rising)
            self.assertEqual(self.asked(all_answers, table, handed, by, True), falling)
            self.assertEqual(self.asked(all_answers, table, handed, by=by, falling=True), falling)

    def test_functions(self):
        for by in (pressed_places, first_pressed, len):
            self.check_order(by)

    def test_lambdas(self):
        self.check_order(lambda presses: -pressed_places(presses))
        self.check_order(lambda presses: 0)
        self.check_order(lambda presses: presses[-1][0] * 10 ** 999 - presses[0][1])
        self.check_order(lambda presses: sum(top for top, bottom in presses) % 3 - 1)

    def test_by_hand(self):
        table, start = Table([[(-1, 1), (0, 1)], [(0, 1), (-1, 1)]]), [(1, 1), (2, 1)]
        nought, second, first, both = [[(0, 1), (0, 1)], [(0, 1), (2, 1)], [(1, 1), (0, 1)], [(1, 1), (2, 1)]]
        self.assertEqual(all_answers(table, start), [nought, second, first, both])
        self.assertEqual(all_answers(table, start, None, True), [both, first, second, nought])
        self.assertEqual(all_answers(table, start, pressed_places), [nought, second, first, both])
        self.assertEqual(all_answers(table, start, pressed_places, True), [both, second, first, nought])
        self.assertEqual(all_answers(table, start, lambda presses: -presses[0][0]), [first, both, nought, second])
        self.assertEqual(all_answers(table, start, lambda presses: presses[0][0], True),
                         [first, both, nought, second])

    def test_equal_numbers_stay_in_rising_order(self):
        for many in PLACES:
            rows, start = several_answers(many)
            table, handed = Table(told_rows(rows)), told_row(start)
            self.assertEqual(all_answers(table, handed, lambda presses: 5, True), all_answers(table, handed))
            self.assertEqual(all_answers(table, handed, lambda presses: 5, False), all_answers(table, handed))

    def test_a_by_that_changes_its_list_changes_nothing(self):
        for many in PLACES:
            rows, start = several_answers(many)
            table, handed = Table(told_rows(rows)), told_row(start)
            for falling in (False, True):
                self.assertEqual(all_answers(table, handed, spoiling, falling),
                                 all_answers(table, handed, pressed_places, falling))
            self.assertEqual(all_answers(table, handed), told_rows(answers_of(rows, start)))

    def test_a_by_that_keeps_its_lists_and_asks_itself(self):
        rows, start = several_answers(2)
        table, handed = Table(told_rows(rows)), told_row(start)
        kept = []

        def keeping(presses):
            kept.append(presses)
            return len(all_answers(table, handed, pressed_places)) + pressed_places(presses)

        answer = all_answers(table, handed, keeping)
        for presses in kept:
            self.assertEqual(len([one for one in answer if one is presses]), 0)
            presses.clear()
        self.assertEqual(answer, all_answers(table, handed, pressed_places))

    def test_of_no_answer_and_of_one(self):
        table = Table([[(-1, 1)]])
        for falling in (False, True):
            self.assertEqual(all_answers(table, [(-1, 1)], len, falling), [])
            self.assertEqual(all_answers(table, [(0, 1)], len, falling), [[(0, 1)]])


class NotFewTest(SlackCase):
    def test_the_first_flat_choice(self):
        source = random.Random(7)
        refused = 0
        for many in PLACES:
            for rows in sample_rows(many, 16, seed=3):
                flat = [choice for choice in all_choices(many, 1) if minor_of(rows, choice) == 0]
                if flat:
                    refused += 1
                    table, start = Table(told_rows(rows)), told_row(random_row(source, many))
                    for falling in (False, True):
                        error = self.refused(Flat, all_answers, table, start, pressed_places, falling)
                        self.assertEqual(error.choice, flat[0])
                    self.assertEqual(self.refused(Flat, all_answers, start=start, table=table).choice, flat[0])
        self.assertGreater(refused, 20)

    def test_each_choice_flat_alone(self):
        # Minors that are 0 at just one choice: its numbers are those of a row that the others make up.
        for many in PLACES:
            for choice in all_choices(many, 1):
                rows = few_rows(many, 1, seed=4)[0]
                places = [place for place, sign in enumerate(choice) if sign == "1"]
                last = places[-1]
                for column in places:
                    rows[last][column] = sum((rows[place][column] * (place + 2) for place in places[:-1]), Fraction(0))
                flat = [text for text in all_choices(many, 1) if minor_of(rows, text) == 0]
                self.assertIn(choice, flat)
                error = self.refused(Flat, all_answers, Table(told_rows(rows)), [(1, 1)] * many)
                self.assertEqual(error.choice, flat[0])

    def test_a_row_of_another_length_goes_ahead(self):
        for many in PLACES:
            table = Table([[(0, 1)] * many for place in range(many)])
            for wrong in self.wrong_lengths([(1, 1)] * many):
                self.refused(NoRow, all_answers, table, wrong)
            self.assertEqual(self.refused(Flat, all_answers, table, [(1, 1)] * many).choice, "0" * (many - 1) + "1")

    def test_what_is_refused_changes_nothing(self):
        table = Table([[(1, 1), (1, 1)], [(1, 1), (1, 1)]])
        first = self.refused(Flat, all_answers, table, [(1, 1), (1, 1)])
        second = self.refused(Flat, all_answers, Table([[(0, 1)]]), [(1, 1)])
        self.assertEqual((first.choice, second.choice), ("11", "1"))
        self.assertEqual(table.rows(), [[(1, 1), (1, 1)], [(1, 1), (1, 1)]])


if __name__ == "__main__":
    unittest.main()
