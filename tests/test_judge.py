"""Points [2], [3], [11], [12] and of [13] the judge: sayings and the papers for and against them."""

import random
import unittest
from fractions import Fraction
from itertools import product

from eitherslack.errors import NoSaying
from eitherslack.judge import judge
from eitherslack.tables import Table
from papers import (
    GREATEST, PLAIN_SAYINGS, all_minors, bars, changed_numbers, changed_things, is_paper, rows_of_parts,
    square_parts, steep_rows, unit, weighs,
)
from reckoning import (
    PLACES, SlackCase, all_choices, answers_of, answers_start, random_row, several_answers, times_of, told,
    told_row, told_rows,
)


def right_papers(many):
    """For each form of a paper: rows, saying, truth and a right paper."""
    source = random.Random(many)
    steep = steep_rows(source, many)
    negative = [[-abs(number) for number in row] for row in steep]
    positive = [[abs(number) for number in row] for row in steep]
    parts = square_parts(source, many)
    several, start = several_answers(many)
    answers = answers_of(several, start)
    noughts = [[Fraction(0)] * many for place in range(many)]
    sunk = random_row(source, many)
    sunk[many - 1] = Fraction(-1, 2)
    weights = [[Fraction(sign) for sign in choice] for choice in all_choices(many, 1)]
    lift = [Fraction(1)] * many
    return [
        (steep, ("one",), True, ("minors", told_row(all_minors(steep)))),
        (several, ("one",), False, ("two", told_row(start), told_row(answers[0]), told_row(answers[-1]))),
        (steep, ("few",), True, ("minors", told_row(all_minors(steep)))),
        (negative, ("few",), True, ("minors", told_row(all_minors(negative)))),
        (noughts, ("few",), False, ("between", told_row([0] * many), told_row(lift), told_row(unit(many, 0, 2)))),
        (positive, ("alone",), True, ("weights", told_rows(weights))),
        (several, ("alone",), False, ("beside", told_row(start), told_row(answers[1]))),
        (steep, ("wide",), True, ("lift", told_row(lift))),
        (negative, ("wide",), False, ("hold", told_row(unit(many, many - 1, 3)))),
        (rows_of_parts(source, parts, many), ("level",), True,
         ("squares", [(told(weight), told_row(row)) for weight, row in parts])),
        (rows_of_parts(source, [], many), ("level",), True, ("squares", [])),
        (negative, ("level",), False, ("dip", told_row(unit(many, 0, -2)))),
        (several, ("answered", told_row(start)), True, ("answer", told_row(answers[-1]))),
        (negative, ("answered", told_row(sunk)), False, ("bars", [told_row(unit(many, many - 1))] * 2 ** many)),
    ]


class JudgeCase(SlackCase):
    def check_judged(self, rows, saying, paper):
        """The judge and the tests' own one are of one mind, with each truth; told are the truths with a right paper."""
        table = Table(told_rows(rows))
        right = []
        for truth in (True, False):
            wanted = is_paper(rows, saying, paper, truth)
            answer = judge(table, saying, paper, truth)
            self.assertIs(answer, wanted, (rows, saying, truth, paper))
            if answer:
                right.append(truth)
        self.assertIs(judge(table, saying, paper), True in right)
        return right


class RightPapersTest(JudgeCase):
    def test_right_papers(self):
        for many in PLACES:
            for rows, saying, truth, paper in right_papers(many):
                with self.subTest(many=many, saying=saying, truth=truth):
                    self.assertEqual(self.check_judged(rows, saying, paper), [truth])

    def test_by_names_and_left_out(self):
        for many in (1, 3):
            for rows, saying, truth, paper in right_papers(many):
                table = Table(told_rows(rows))
                for asked_truth in (True, False):
                    answer = self.asked_each_way(judge, table=table, saying=saying, paper=paper, truth=asked_truth)
                    self.assertIs(answer, truth == asked_truth)
                self.assertIs(self.asked_each_way(judge, table=table, saying=saying, paper=paper), truth)

    def test_papers_of_another_saying(self):
        for many in PLACES:
            entries = right_papers(many)
            sayings = PLAIN_SAYINGS + [("answered", told_row([1] * many)), ("answered", told_row([-1] * many))]
            for rows in [entry[0] for entry in entries[:5]]:
                for saying, paper in product(sayings, [entry[3] for entry in entries]):
                    self.check_judged(rows, saying, paper)
            for rows, saying, truth, paper in entries:
                for other in sayings:
                    if other[0] != saying[0] and (paper[0], other[0]) not in (("minors", "few"), ("minors", "one")):
                        self.assertIs(judge(Table(told_rows(rows)), other, paper, truth), False)
                        self.assertIs(judge(Table(told_rows(rows)), other, paper, not truth), False)


class ChangedPapersTest(JudgeCase):
    def test_one_number_or_one_list_changed(self):
        source = random.Random(9)
        seen = {}
        for many in PLACES:
            for rows, saying, truth, paper in right_papers(many):
                others = changed_things(paper)
                if many > 2:
                    others = source.sample(others, min(len(others), 60))
                for other in others:
                    right = self.check_judged(rows, saying, other)
                    seen.setdefault(paper[0], set()).add(truth in right)
        # For each form some changed papers are wrong, and, where numbers may vary, some are right.
        self.assertEqual({form for form in seen if False in seen[form]}, {
            "minors", "two", "between", "weights", "beside", "lift", "hold", "squares", "dip", "answer", "bars"})
        self.assertTrue({"weights", "lift", "hold", "dip", "bars", "between"} <=
                        {form for form in seen if True in seen[form]})

    def test_the_table_changed(self):
        for many in (1, 2, 3):
            for rows, saying, truth, paper in right_papers(many):
                for row, column in product(range(many), repeat=2):
                    for change in (Fraction(1), Fraction(-9), Fraction(1, 7)):
                        others = [list(numbers) for numbers in rows]
                        others[row][column] += change
                        self.check_judged(others, saying, paper)

    def test_the_start_changed(self):
        for many in PLACES:
            for rows, saying, truth, paper in right_papers(many)[-2:]:
                for place in range(many):
                    for number in changed_numbers(saying[1][place]):
                        start = list(saying[1])
                        start[place] = number
                        self.check_judged(rows, ("answered", start), paper)

    def test_lists_of_any_lengths(self):
        lengths = (0, 1, 2, 3, 4, 5, 6, 31, 32, 300)
        for many in PLACES:
            rows = right_papers(many)[0][0]
            for length in lengths:
                row = [(1, 1)] * length
                papers = [("minors", row), ("lift", row), ("hold", row), ("dip", row), ("answer", row)]
                for other in lengths:
                    papers += [("beside", row, [(1, 1)] * other), ("two", row, [(1, 1)] * other, row),
                               ("between", row, row, [(0, 1)] * other), ("weights", [row] * other),
                               ("bars", [row] * other), ("squares", [((1, 1), row)] * min(other, 6))]
                for saying in PLAIN_SAYINGS + [("answered", told_row([-1] * many))]:
                    for paper in papers:
                        self.check_judged(rows, saying, paper)


class ByHandTest(JudgeCase):
    def judged(self, text, saying, paper, truth):
        rows = [[Fraction(word) for word in line.split()] for line in text.split("; ")]
        answer = judge(Table(told_rows(rows)), saying, paper, truth)
        self.assertIs(judge(Table(told_rows(rows)), saying, paper, not truth), False)
        self.assertEqual(self.check_judged(rows, saying, paper), [truth] if answer else [])
        return answer

    def test_minors(self):
        right = ("minors", told_row([2, 2, 3]))
        self.assertTrue(self.judged("2 1; 1 2", ("one",), right, True))
        self.assertTrue(self.judged("2 1; 1 2", ("few",), right, True))
        for numbers in ([2, 3, 2], [2, 2], [2, 2, 3, 3], [1, 2, 2, 3], [], [2, 2, 4]):
            self.assertFalse(self.judged("2 1; 1 2", ("one",), ("minors", told_row(numbers)), True))
            self.assertFalse(self.judged("2 1; 1 2", ("few",), ("minors", told_row(numbers)), True))
        below = ("minors", told_row([1, 1, -3]))
        self.assertFalse(self.judged("1 2; 2 1", ("one",), below, True))
        self.assertTrue(self.judged("1 2; 2 1", ("few",), below, True))
        flat = ("minors", told_row([1, 1, 0]))
        self.assertFalse(self.judged("1 1; 1 1", ("one",), flat, True))
        self.assertFalse(self.judged("1 1; 1 1", ("few",), flat, True))

    def test_two_and_between(self):
        start, first, second = told_row([-1, -1]), told_row([1, 0]), told_row([0, 1])
        self.assertTrue(self.judged("1 2; 2 1", ("one",), ("two", start, first, second), False))
        self.assertFalse(self.judged("1 2; 2 1", ("one",), ("two", start, first, first), False))
        self.assertFalse(self.judged("1 2; 2 1", ("few",), ("between", start, first, second), False))
        self.assertTrue(self.judged("1 1; 1 1", ("few",), ("between", start, first, second), False))
        self.assertFalse(self.judged("1 1; 1 1", ("few",), ("between", start, first, first), False))
        self.assertFalse(self.judged("1 1; 1 1", ("few",), ("two", start, first, second), False))
        self.assertFalse(self.judged("1 1; 1 1", ("one",), ("between", start, first, second), False))

    def test_weights_and_beside(self):
        self.assertTrue(self.judged("1 2; 3 1", ("alone",), ("weights", told_rows([[0, 1], [1, 0], [1, 1]])), True))
        self.assertTrue(self.judged("1 2; 3 1", ("alone",), ("weights", told_rows([[0, 1], [1, 0], [0, 1]])), True))
        for rows in ([[1, 0], [0, 1], [1, 1]], [[0, 1], [1, 0]], [[0, 0], [0, 1], [1, 0], [1, 1]],
                     [[1, 1], [1, 0], [1, 1]], [[0, 1], [1, 0], [-1, 4]], [[0, 1], [1, 0], [0, 0]], []):
            self.assertFalse(self.judged("1 2; 3 1", ("alone",), ("weights", told_rows(rows)), True))
        # The sums are said of columns, not of rows.
        self.assertTrue(self.judged("1 -1; 4 1", ("alone",), ("weights", told_rows([[0, 1], [1, 0], [1, 2]])), True))
        self.assertFalse(self.judged("1 4; -1 1", ("alone",), ("weights", told_rows([[0, 1], [1, 0], [1, 2]])), True))
        self.assertTrue(self.judged("-1", ("alone",), ("beside", told_row([1]), told_row([1])), False))
        self.assertTrue(self.judged("0", ("alone",), ("beside", told_row([0]), told_row([1])), False))
        self.assertFalse(self.judged("-1", ("alone",), ("beside", told_row([1]), told_row([0])), False))
        self.assertFalse(self.judged("1", ("alone",), ("beside", told_row([-1]), told_row([1])), False))

    def test_lift_and_hold(self):
        self.assertTrue(self.judged("2 -1; -1 2", ("wide",), ("lift", told_row([1, 1])), True))
        self.assertFalse(self.judged("2 -1; -1 2", ("wide",), ("lift", told_row([1, 2])), True))
        self.assertFalse(self.judged("0 1; -1 0", ("wide",), ("lift", told_row([-1, 1])), True))
        self.assertTrue(self.judged("1 -1; -1 1", ("wide",), ("hold", told_row([1, 1])), False))
        self.assertFalse(self.judged("1 -1; -1 1", ("wide",), ("hold", told_row([0, 0])), False))
        self.assertFalse(self.judged("1 -1; -1 1", ("wide",), ("hold", told_row([1, 2])), False))
        self.assertTrue(self.judged("0 1; -1 0", ("wide",), ("hold", told_row([0, 1])), False))
        self.assertFalse(self.judged("0 1; -1 0", ("wide",), ("hold", told_row([1, 0])), False))

    def test_squares_and_dip(self):
        parts = [((1, 1), told_row([1, 1])), ((1, 1), told_row([1, 0])), ((1, 4), told_row([0, 2]))]
        self.assertTrue(self.judged("2 1; 1 2", ("level",), ("squares", parts), True))
        self.assertTrue(self.judged("2 8; -6 2", ("level",), ("squares", parts), True))
        self.assertFalse(self.judged("2 1; 1 2", ("level",), ("squares", parts[:2]), True))
        self.assertFalse(self.judged("2 1; 1 2", ("level",), ("squares", parts + [((0, 1), told_row([1, 1]))]), True))
        self.assertTrue(self.judged("2 1; 1 2", ("level",), ("squares", parts + [((1, 1), told_row([0, 0]))]), True))
        self.assertFalse(self.judged("-1", ("level",), ("squares", [((-1, 1), told_row([1]))]), True))
        self.assertTrue(self.judged("0 3; -3 0", ("level",), ("squares", []), True))
        self.assertFalse(self.judged("0 3; -3 1", ("level",), ("squares", []), True))
        self.assertTrue(self.judged("1 3; 0 1", ("level",), ("dip", told_row([1, -1])), False))
        self.assertFalse(self.judged("1 3; 0 1", ("level",), ("dip", told_row([1, 1])), False))
        self.assertFalse(self.judged("0 3; -3 0", ("level",), ("dip", told_row([1, -1])), False))

    def test_answer_and_bars(self):
        saying = ("answered", told_row([-3, 1]))
        self.assertTrue(self.judged("2 1; 1 2", saying, ("answer", [(3, 2), (0, 1)]), True))
        self.assertFalse(self.judged("2 1; 1 2", saying, ("answer", [(3, 1), (0, 1)]), True))
        self.assertTrue(self.judged("-1", ("answered", told_row([-1])), ("bars", told_rows([[1], [1]])), False))
        for rows in ([[1]], [[1], [0]], [[0], [1]], [[-1], [1]], [[1], [1], [1]], [[1], [1, 1]], [[1], []]):
            self.assertFalse(self.judged("-1", ("answered", told_row([-1])), ("bars", told_rows(rows)), False))
        # At chosen places the numbers may be below 0, and at others the sums may be above.
        rows = [[0, 1], [0, 1], [-1, 0], [-1, 1]]
        self.assertTrue(self.judged("1 0; 0 -1", ("answered", told_row([2, -1])), ("bars", told_rows(rows)), False))
        rows[0] = [-1, 1]
        self.assertFalse(self.judged("1 0; 0 -1", ("answered", told_row([2, -1])), ("bars", told_rows(rows)), False))

    def test_great_numbers(self):
        great = Fraction(GREATEST, GREATEST - 1)
        rows = [[great, Fraction(-1, GREATEST)], [Fraction(-7), great * 9]]
        self.assertEqual(self.check_judged(rows, ("one",), ("minors", told_row(all_minors(rows)))), [True])
        lift = [Fraction(1), Fraction(1)]
        self.assertEqual(self.check_judged(rows, ("wide",), ("lift", told_row(lift))), [True])
        start = [-lift for lift in times_of(rows, [great, 3 * great])]
        self.assertEqual(self.check_judged(rows, ("answered", told_row(start)),
                                           ("answer", told_row([great, 3 * great]))), [True])


class NeverBothTest(JudgeCase):
    """All tables of one and of two places with small numbers: papers that a search finds."""

    def small_rows(self, many, numbers):
        return [[Fraction(number) for number in row] for row in product(numbers, repeat=many)]

    def papers(self, rows, start):
        """Pairs of a saying and a right or a wrong paper, from rows of small numbers."""
        many = len(rows)
        small = self.small_rows(many, (-1, 0, 1, 2))
        found = [(("one",), ("minors", told_row(all_minors(rows)))), (("few",), ("minors", told_row(all_minors(rows))))]
        for row in small:
            found += [(("wide",), ("lift", told_row(row))), (("wide",), ("hold", told_row(row)))]
            found += [(("level",), ("dip", told_row(row))), (("answered", told_row(start)), ("answer", told_row(row)))]
            found.append((("alone",), ("beside", told_row(start), told_row(row))))
        answers = [told_row(row) for row in small if answers_start(rows, start, row)]
        for pair in product(answers, repeat=2):
            found += [(("one",), ("two", told_row(start), *pair)), (("few",), ("between", told_row(start), *pair))]
        weights = [next((row for row in small if weighs(rows, choice, row)), small[0])
                   for choice in all_choices(many, 1)]
        found.append((("alone",), ("weights", told_rows(weights))))
        barred = [next((row for row in small if bars(rows, start, choice, row)), small[0])
                  for choice in all_choices(many)]
        found.append((("answered", told_row(start)), ("bars", told_rows(barred))))
        return found

    def test_never_both(self):
        seen = set()
        for many, numbers in ((1, (-2, -1, 0, 1, 2)), (2, (-1, 0, 1))):
            tables = product(self.small_rows(many, numbers), repeat=many)
            for rows in tables:
                truths = {}
                for start in self.small_rows(many, (-1, 0, 1)):
                    for saying, paper in self.papers(list(rows), start):
                        for truth in self.check_judged(list(rows), saying, paper):
                            truths.setdefault(str(saying), set()).add(truth)
                            seen.add((saying[0], truth))
                for saying, both in truths.items():
                    self.assertEqual(len(both), 1, (rows, saying))
        self.assertEqual(len(seen), 11)
        self.assertNotIn(("level", True), seen)


class NoSayingTest(SlackCase):
    def wrong_sayings(self, many):
        row = [(1, 1)] * many
        sayings = [(word,) for word in ("", "two", "One", "one ", "minors", "answered", "all", "1", "none")]
        sayings += [(word[0], other) for word in PLAIN_SAYINGS for other in ([], row)]
        sayings += [("answer", row), ("", row), ("answered", row, row), ("answered", row, []), ("one", row, row)]
        sayings += [("answered", wrong) for wrong in self.wrong_lengths(row)]
        return sayings

    def test_tuples_that_are_no_saying(self):
        for many in PLACES:
            entries = right_papers(many)
            for saying in self.wrong_sayings(many):
                for rows, right, truth, paper in entries[:4] + entries[-2:]:
                    table = Table(told_rows(rows))
                    self.refused(NoSaying, judge, table, saying, paper)
                    self.refused(NoSaying, judge, table, saying, paper, truth)
                    self.refused(NoSaying, judge, truth=not truth, paper=paper, saying=saying, table=table)

    def test_a_saying_mended_and_taken(self):
        table, start, paper = Table([[(1, 1)]]), [], ("answer", [(2, 1)])
        self.refused(NoSaying, judge, table, ("answered", start), paper)
        start.append((-2, 1))
        self.assertIs(judge(table, ("answered", start), paper), True)
        start.append((-2, 1))
        self.refused(NoSaying, judge, table, ("answered", start), paper)


if __name__ == "__main__":
    unittest.main()
