"""Points [2], [3], [11], [12] and of [13] the judge: sayings and the papers for and against them."""

import random
import unittest
from fractions import Fraction
from itertools import product

from eitherslack.errors import NoSaying
from eitherslack.judge import judge
from eitherslack.tables import Table
from reckoning import (
    PLACES, SlackCase, all_choices, answers_of, answers_start, gaps_of, minor_of, random_row,
    random_rows, read, read_row, read_rows, several_answers, times_of, told, told_row, told_rows,
    turned_rows,
)

PLAIN_SAYINGS = [("one",), ("few",), ("alone",), ("wide",), ("level",)]
GREATEST = 10 ** 1000 - 1


def all_minors(rows):
    return [minor_of(rows, choice) for choice in all_choices(len(rows), 1)]


def are_answers(rows, start, *many_presses):
    """Whether lists of any lengths are a start and answers of it."""
    if any(len(row) != len(rows) for row in (start,) + many_presses):
        return False
    return all(answers_start(rows, start, presses) for presses in many_presses)


def lie_between(rows, start, presses, others):
    one_gaps, other_gaps = gaps_of(rows, start, presses), gaps_of(rows, start, others)
    return all(presses[at] == others[at] == 0 or one_gaps[at] == other_gaps[at] == 0 for at in range(len(rows)))


def weighs(rows, choice, row):
    sums = times_of(turned_rows(rows), row)
    if len(row) != len(rows) or min(row) < 0:
        return False
    return all(sums[at] > 0 if sign == "1" else row[at] == 0 for at, sign in enumerate(choice))


def bars(rows, start, choice, row):
    sums = times_of(turned_rows(rows), row)
    if len(row) != len(rows) or sum(one * other for one, other in zip(row, start)) >= 0:
        return False
    return all(sums[at] <= 0 if sign == "1" else row[at] >= 0 for at, sign in enumerate(choice))


def squares_come(rows, parts):
    many = len(rows)
    if any(weight <= 0 or len(row) != many for weight, row in parts):
        return False
    return all(
        rows[i][j] + rows[j][i] == 2 * sum(weight * row[i] * row[j] for weight, row in parts)
        for i in range(many) for j in range(many))


def dip_of(rows, row):
    return sum(one * other for one, other in zip(row, times_of(rows, row)))


def is_paper(rows, saying, paper, truth):
    """The tests' own judge, by the words of [12]."""
    many, word, form = len(rows), saying[0], (saying[0], truth, paper[0])
    if form == ("one", True, "minors"):
        return read_row(paper[1]) == all_minors(rows) and all(number > 0 for number in all_minors(rows))
    if form == ("few", True, "minors"):
        return read_row(paper[1]) == all_minors(rows) and 0 not in all_minors(rows)
    if form in (("one", False, "two"), ("few", False, "between")):
        start, presses, others = read_rows(paper[1:])
        if presses == others or not are_answers(rows, start, presses, others):
            return False
        return word == "one" or lie_between(rows, start, presses, others)
    if form == ("alone", True, "weights"):
        texts, weights = all_choices(many, 1), read_rows(paper[1])
        return len(weights) == len(texts) and all(weighs(rows, *pair) for pair in zip(texts, weights))
    if form == ("alone", False, "beside"):
        start, presses = read_rows(paper[1:])
        return are_answers(rows, start, presses) and min(start) >= 0 and max(presses) > 0
    if form == ("wide", True, "lift"):
        presses = read_row(paper[1])
        return len(presses) == many and min(presses) >= 0 and min(times_of(rows, presses)) > 0
    if form == ("wide", False, "hold"):
        row = read_row(paper[1])
        return len(row) == many and min(row) >= 0 < max(row) and max(times_of(turned_rows(rows), row)) <= 0
    if form == ("level", True, "squares"):
        return squares_come(rows, [(read(weight), read_row(row)) for weight, row in paper[1]])
    if form == ("level", False, "dip"):
        return len(paper[1]) == many and dip_of(rows, read_row(paper[1])) < 0
    if form == ("answered", True, "answer"):
        return are_answers(rows, read_row(saying[1]), read_row(paper[1]))
    if form == ("answered", False, "bars"):
        texts, found = all_choices(many), read_rows(paper[1])
        start = read_row(saying[1])
        return len(found) == len(texts) and all(bars(rows, start, *pair) for pair in zip(texts, found))
    return False


def changed_numbers(number):
    """Other fractions in a fraction's place."""
    value = read(number)
    others = [value + 1, value - 1, -value, value / 2, Fraction(0), value + Fraction(1, GREATEST)]
    return [told(other) for other in others if other != value]


def changed_things(thing):
    """The thing with one number changed, or with one of its lists too short, too long or empty."""
    if isinstance(thing, str):
        return []
    if isinstance(thing, tuple) and isinstance(thing[0], int):
        return changed_numbers(thing)
    found = []
    for place, part in enumerate(thing):
        for other in changed_things(part):
            if isinstance(thing, tuple):
                found.append(thing[:place] + (other,) + thing[place + 1:])
            else:
                found.append(thing[:place] + [other] + thing[place + 1:])
    if isinstance(thing, list):
        found += [thing[:-1], thing[1:], thing[::-1], thing + thing[-1:], thing[:1] + thing, []]
        found.append(thing + thing[-1:] * (300 - len(thing)))
        if thing and isinstance(thing[0], tuple) and isinstance(thing[0][0], int):
            found.append(thing + [(0, 1)])
    return found


def unit(many, place, number=1):
    return [Fraction(number if at == place else 0) for at in range(many)]


def square_parts(source, many):
    parts = [(Fraction(source.randint(1, 6), source.randint(1, 4)), random_row(source, many)) for turn in range(3)]
    return [part for part in parts if any(part[1])]


def rows_of_parts(source, parts, many):
    """Rows that the parts come to, with others that cancel across the diagonal put to them."""
    rows = [[sum((weight * row[i] * row[j] for weight, row in parts), Fraction(0)) for j in range(many)]
            for i in range(many)]
    for i in range(many):
        for j in range(i):
            number = source.randint(-3, 3)
            rows[i][j] += number
            rows[j][i] -= number
    return rows


def steep_rows(source, many):
    """Rows with a diagonal that outweighs the rest of its row: all minors are above 0."""
    rows = random_rows(source, many)
    for place in range(many):
        rows[place][place] = 1 + sum(abs(number) for number in rows[place])
    return rows


def right_papers(many):
    """For each form of a paper: rows, saying, truth and a right paper."""
    source = random.Random(many)
    steep = steep_rows(source, many)
    negative = [[-abs(number) for number in row] for row in steep]
    positive = [[abs(number) for number in row] for row in steep]
    parts = square_parts(source, many)
    several, start = several_answers(many)
    answers = answers_of(several, start)
    noughts = [[Fraction(0)] * many for place in range(many)]
    sunk = random_row(source, many)
    sunk[many - 1] = Fraction(-1, 2)
    weights = [[Fraction(sign) for sign in choice] for choice in all_choices(many, 1)]
    lift = [Fraction(1)] * many
    return [
        (steep, ("one",), True, ("minors", told_row(all_minors(steep)))),
        (several, ("one",), False, ("two", told_row(start), told_row(answers[0]), told_row(answers[-1]))),
        (steep, ("few",), True, ("minors", told_row(all_minors(steep)))),
        (negative, ("few",), True, ("minors", told_row(all_minors(negative)))),
        (noughts, ("few",), False, ("between", told_row([0] * many), told_row(lift), told_row(unit(many, 0, 2)))),
        (positive, ("alone",), True, ("weights", told_rows(weights))),
        (several, ("alone",), False, ("beside", told_row(start), told_row(answers[1]))),
        (steep, ("wide",), True, ("lift", told_row(lift))),
        (negative, ("wide",), False, ("hold", told_row(unit(many, many - 1, 3)))),
        (rows_of_parts(source, parts, many), ("level",), True,
         ("squares", [(told(weight), told_row(row)) for weight, row in parts])),
        (rows_of_parts(source, [], many), ("level",), True, ("squares", [])),
        (negative, ("level",), False, ("dip", told_row(unit(many, 0, -2)))),
        (several, ("answered", told_row(start)), True, ("answer", told_row(answers[-1]))),
        (negative, ("answered", told_row(sunk)), False, ("bars", [told_row(unit(many, many - 1))] * 2 ** many)),
    ]


class JudgeCase(SlackCase):
    def check_judged(self, rows, saying, paper):
        """The judge and the tests' own one are of one mind, with each truth; told are the truths with a right paper."""
        table = Table(told_rows(rows))
        right = []
        for truth in (True, False):
            wanted = is_paper(rows, saying, paper, truth)
            answer = judge(table, saying, paper, truth)
            self.assertIs(answer, wanted, (rows, saying, truth, paper))
            if answer:
                right.append(truth)
        self.assertIs(judge(table, saying, paper), True in right)
        return right


class RightPapersTest(JudgeCase):
    def test_right_papers(self):
        for many in PLACES:
            for rows, saying, truth, paper in right_papers(many):
                with self.subTest(many=many, saying=saying, truth=truth):
                    self.assertEqual(self.check_judged(rows, saying, paper), [truth])

    def test_by_names_and_left_out(self):
        for many in (1, 3):
            for rows, saying, truth, paper in right_papers(many):
                table = Table(told_rows(rows))
                for asked_truth in (True, False):
                    answer = self.asked_each_way(judge, table=table, saying=saying, paper=paper, truth=asked_truth)
                    self.assertIs(answer, truth == asked_truth)
                self.assertIs(self.asked_each_way(judge, table=table, saying=saying, paper=paper), truth)

    def test_papers_of_another_saying(self):
        for many in PLACES:
            entries = right_papers(many)
            sayings = PLAIN_SAYINGS + [("answered", told_row([1] * many)), ("answered", told_row([-1] * many))]
            for rows in [entry[0] for entry in entries[:5]]:
                for saying, paper in product(sayings, [entry[3] for entry in entries]):
                    self.check_judged(rows, saying, paper)
            for rows, saying, truth, paper in entries:
                for other in sayings:
                    if other[0] != saying[0] and (paper[0], other[0]) not in (("minors", "few"), ("minors", "one")):
                        self.assertIs(judge(Table(told_rows(rows)), other, paper, truth), False)
                        self.assertIs(judge(Table(told_rows(rows)), other, paper, not truth), False)


class ChangedPapersTest(JudgeCase):
    def test_one_number_or_one_list_changed(self):
        source = random.Random(9)
        seen = {}
        for many in PLACES:
            for rows, saying, truth, paper in right_papers(many):
                others = changed_things(paper)
                if many > 2:
                    others = source.sample(others, min(len(others), 60))
                for other in others:
                    right = self.check_judged(rows, saying, other)
                    seen.setdefault(paper[0], set()).add(truth in right)
        # For each form some changed papers are wrong, and, where numbers may vary, some are right.
        self.assertEqual({form for form in seen if False in seen[form]}, {
            "minors", "two", "between", "weights", "beside", "lift", "hold", "squares", "dip", "answer", "bars"})
        self.assertTrue({"weights", "lift", "hold", "dip", "bars", "between"} <=
                        {form for form in seen if True in seen[form]})

    def test_the_table_changed(self):
        for many in (1, 2, 3):
            for rows, saying, truth, paper in right_papers(many):
                for row, column in product(range(many), repeat=2):
                    for change in (Fraction(1), Fraction(-9), Fraction(1, 7)):
                        others = [list(numbers) for numbers in rows]
                        others[row][column] += change
                        self.check_judged(others, saying, paper)

    def test_the_start_changed(self):
        for many in PLACES:
            for rows, saying, truth, paper in right_papers(many)[-2:]:
                for place in range(many):
                    for number in changed_numbers(saying[1][place]):
                        start = list(saying[1])
                        start[place] = number
                        self.check_judged(rows, ("answered", start), paper)

    def test_lists_of_any_lengths(self):
        lengths = (0, 1, 2, 3, 4, 5, 6, 31, 32, 300)
        for many in PLACES:
            rows = right_papers(many)[0][0]
            for length in lengths:
                row = [(1, 1)] * length
                papers = [("minors", row), ("lift", row), ("hold", row), ("dip", row), ("answer", row)]
                for other in lengths:
                    papers += [("beside", row, [(1, 1)] * other), ("two", row, [(1, 1)] * other, row),
                               ("between", row, row, [(0, 1)] * other), ("weights", [row] * other),
                               ("bars", [row] * other), ("squares", [((1, 1), row)] * min(other, 6))]
                for saying in PLAIN_SAYINGS + [("answered", told_row([-1] * many))]:
                    for paper in papers:
                        self.check_judged(rows, saying, paper)


class ByHandTest(JudgeCase):
    def judged(self, text, saying, paper, truth):
        rows = [[Fraction(word) for word in line.split()] for line in text.split("; ")]
        answer = judge(Table(told_rows(rows)), saying, paper, truth)
        self.assertIs(judge(Table(told_rows(rows)), saying, paper, not truth), False)
        self.assertEqual(self.check_judged(rows, saying, paper), [truth] if answer else [])
        return answer

    def test_minors(self):
        right = ("minors", told_row([2, 2, 3]))
        self.assertTrue(self.judged("2 1; 1 2", ("one",), right, True))
        self.assertTrue(self.judged("2 1; 1 2", ("few",), right, True))
        for numbers in ([2, 3, 2], [2, 2], [2, 2, 3, 3], [1, 2, 2, 3], [], [2, 2, 4]):
            self.assertFalse(self.judged("2 1; 1 2", ("one",), ("minors", told_row(numbers)), True))
            self.assertFalse(self.judged("2 1; 1 2", ("few",), ("minors", told_row(numbers)), True))
        below = ("minors", told_row([1, 1, -3]))
        self.assertFalse(self.judged("1 2; 2 1", ("one",), below, True))
        self.assertTrue(self.judged("1 2; 2 1", ("few",), below, True))
        flat = ("minors", told_row([1, 1, 0]))
        self.assertFalse(self.judged("1 1; 1 1", ("one",), flat, True))
        self.assertFalse(self.judged("1 1; 1 1", ("few",), flat, True))

    def test_two_and_between(self):
        start, first, second = told_row([-1, -1]), told_row([1, 0]), told_row([0, 1])
        self.assertTrue(self.judged("1 2; 2 1", ("one",), ("two", start, first, second), False))
        self.assertFalse(self.judged("1 2; 2 1", ("one",), ("two", start, first, first), False))
        self.assertFalse(self.judged("1 2; 2 1", ("few",), ("between", start, first, second), False))
        self.assertTrue(self.judged("1 1; 1 1", ("few",), ("between", start, first, second), False))
        self.assertFalse(self.judged("1 1; 1 1", ("few",), ("between", start, first, first), False))
        self.assertFalse(self.judged("1 1; 1 1", ("few",), ("two", start, first, second), False))
        self.assertFalse(self.judged("1 1; 1 1", ("one",), ("between", start, first, second), False))

    def test_weights_and_beside(self):
        self.assertTrue(self.judged("1 2; 3 1", ("alone",), ("weights", told_rows([[0, 1], [1, 0], [1, 1]])), True))
        self.assertTrue(self.judged("1 2; 3 1", ("alone",), ("weights", told_rows([[0, 1], [1, 0], [0, 1]])), True))
        for rows in ([[1, 0], [0, 1], [1, 1]], [[0, 1], [1, 0]], [[0, 0], [0, 1], [1, 0], [1, 1]],
                     [[1, 1], [1, 0], [1, 1]], [[0, 1], [1, 0], [-1, 4]], [[0, 1], [1, 0], [0, 0]], []):
            self.assertFalse(self.judged("1 2; 3 1", ("alone",), ("weights", told_rows(rows)), True))
        # The sums are said of columns, not of rows.
        self.assertTrue(self.judged("1 -1; 4 1", ("alone",), ("weights", told_rows([[0, 1], [1, 0], [1, 2]])), True))
        self.assertFalse(self.judged("1 4; -1 1", ("alone",), ("weights", told_rows([[0, 1], [1, 0], [1, 2]])), True))
        self.assertTrue(self.judged("-1", ("alone",), ("beside", told_row([1]), told_row([1])), False))
        self.assertTrue(self.judged("0", ("alone",), ("beside", told_row([0]), told_row([1])), False))
        self.assertFalse(self.judged("-1", ("alone",), ("beside", told_row([1]), told_row([0])), False))
        self.assertFalse(self.judged("1", ("alone",), ("beside", told_row([-1]), told_row([1])), False))

    def test_lift_and_hold(self):
        self.assertTrue(self.judged("2 -1; -1 2", ("wide",), ("lift", told_row([1, 1])), True))
        self.assertFalse(self.judged("2 -1; -1 2", ("wide",), ("lift", told_row([1, 2])), True))
        self.assertFalse(self.judged("0 1; -1 0", ("wide",), ("lift", told_row([-1, 1])), True))
        self.assertTrue(self.judged("1 -1; -1 1", ("wide",), ("hold", told_row([1, 1])), False))
        self.assertFalse(self.judged("1 -1; -1 1", ("wide",), ("hold", told_row([0, 0])), False))
        self.assertFalse(self.judged("1 -1; -1 1", ("wide",), ("hold", told_row([1, 2])), False))
        self.assertTrue(self.judged("0 1; -1 0", ("wide",), ("hold", told_row([0, 1])), False))
        self.assertFalse(self.judged("0 1; -1 0", ("wide",), ("hold", told_row([1, 0])), False))

    def test_squares_and_dip(self):
        parts = [((1, 1), told_row([1, 1])), ((1, 1), told_row([1, 0])), ((1, 4), told_row([0, 2]))]
        self.assertTrue(self.judged("2 1; 1 2", ("level",), ("squares", parts), True))
        self.assertTrue(self.judged("2 8; -6 2", ("level",), ("squares", parts), True))
        self.assertFalse(self.judged("2 1; 1 2", ("level",), ("squares", parts[:2]), True))
        self.assertFalse(self.judged("2 1; 1 2", ("level",), ("squares", parts + [((0, 1), told_row([1, 1]))]), True))
        self.assertTrue(self.judged("2 1; 1 2", ("level",), ("squares", parts + [((1, 1), told_row([0, 0]))]), True))
        self.assertFalse(self.judged("-1", ("level",), ("squares", [((-1, 1), told_row([1]))]), True))
        self.assertTrue(self.judged("0 3; -3 0", ("level",), ("squares", []), True))
        self.assertFalse(self.judged("0 3; -3 1", ("level",), ("squares", []), True))
        self.assertTrue(self.judged("1 3; 0 1", ("level",), ("dip", told_row([1, -1])), False))
        self.assertFalse(self.judged("1 3; 0 1", ("level",), ("dip", told_row([1, 1])), False))
        self.assertFalse(self.judged("0 3; -3 0", ("level",), ("dip", told_row([1, -1])), False))

    def test_answer_and_bars(self):
        saying = ("answered", told_row([-3, 1]))
        self.assertTrue(self.judged("2 1; 1 2", saying, ("answer", [(3, 2), (0, 1)]), True))
        self.assertFalse(self.judged("2 1; 1 2", saying, ("answer", [(3, 1), (0, 1)]), True))
        self.assertTrue(self.judged("-1", ("answered", told_row([-1])), ("bars", told_rows([[1], [1]])), False))
        for rows in ([[1]], [[1], [0]], [[0], [1]], [[-1], [1]], [[1], [1], [1]], [[1], [1, 1]], [[1], []]):
            self.assertFalse(self.judged("-1", ("answered", told_row([-1])), ("bars", told_rows(rows)), False))
        # At chosen places the numbers may be below 0, and at others the sums may be above.
        rows = [[0, 1], [0, 1], [-1, 0], [-1, 1]]
        self.assertTrue(self.judged("1 0; 0 -1", ("answered", told_row([2, -1])), ("bars", told_rows(rows)), False))
        rows[0] = [-1, 1]
        self.assertFalse(self.judged("1 0; 0 -1", ("answered", told_row([2, -1])), ("bars", told_rows(rows)), False))

    def test_great_numbers(self):
        great = Fraction(GREATEST, GREATEST - 1)
        rows = [[great, Fraction(-1, GREATEST)], [Fraction(-7), great * 9]]
        self.assertEqual(self.check_judged(rows, ("one",), ("minors", told_row(all_minors(rows)))), [True])
        lift = [Fraction(1), Fraction(1)]
        self.assertEqual(self.check_judged(rows, ("wide",), ("lift", told_row(lift))), [True])
        start = [-lift for lift in times_of(rows, [great, 3 * great])]
        self.assertEqual(self.check_judged(rows, ("answered", told_row(start)),
                                           ("answer", told_row([great, 3 * great]))), [True])


class NeverBothTest(JudgeCase):
    """All tables of one and of two places with small numbers: papers that a search finds."""

    def small_rows(self, many, numbers):
        return [[Fraction(number) for number in row] for row in product(numbers, repeat=many)]

    def papers(self, rows, start):
        """Pairs of a saying and a right or a wrong paper, from rows of small numbers."""
        many = len(rows)
        small = self.small_rows(many, (-1, 0, 1, 2))
        found = [(("one",), ("minors", told_row(all_minors(rows)))), (("few",), ("minors", told_row(all_minors(rows))))]
        for row in small:
            found += [(("wide",), ("lift", told_row(row))), (("wide",), ("hold", told_row(row)))]
            found += [(("level",), ("dip", told_row(row))), (("answered", told_row(start)), ("answer", told_row(row)))]
            found.append((("alone",), ("beside", told_row(start), told_row(row))))
        answers = [told_row(row) for row in small if answers_start(rows, start, row)]
        for pair in product(answers, repeat=2):
            found += [(("one",), ("two", told_row(start), *pair)), (("few",), ("between", told_row(start), *pair))]
        weights = [next((row for row in small if weighs(rows, choice, row)), small[0])
                   for choice in all_choices(many, 1)]
        found.append((("alone",), ("weights", told_rows(weights))))
        barred = [next((row for row in small if bars(rows, start, choice, row)), small[0])
                  for choice in all_choices(many)]
        found.append((("answered", told_row(start)), ("bars", told_rows(barred))))
        return found

    def test_never_both(self):
        seen = set()
        for many, numbers in ((1, (-2, -1, 0, 1, 2)), (2, (-1, 0, 1))):
            tables = product(self.small_rows(many, numbers), repeat=many)
            for rows in tables:
                truths = {}
                for start in self.small_rows(many, (-1, 0, 1)):
                    for saying, paper in self.papers(list(rows), start):
                        for truth in self.check_judged(list(rows), saying, paper):
                            truths.setdefault(str(saying), set()).add(truth)
                            seen.add((saying[0], truth))
                for saying, both in truths.items():
                    self.assertEqual(len(both), 1, (rows, saying))
        self.assertEqual(len(seen), 11)
        self.assertNotIn(("level", True), seen)


class NoSayingTest(SlackCase):
    def wrong_sayings(self, many):
        row = [(1, 1)] * many
        sayings = [(word,) for word in ("", "two", "One", "one ", "minors", "answered", "all", "1", "none")]
        sayings += [(word[0], other) for word in PLAIN_SAYINGS for other in ([], row)]
        sayings += [("answer", row), ("", row), ("answered", row, row), ("answered", row, []), ("one", row, row)]
        sayings += [("answered", wrong) for wrong in self.wrong_lengths(row)]
        return sayings

    def test_tuples_that_are_no_saying(self):
        for many in PLACES:
            entries = right_papers(many)
            for saying in self.wrong_sayings(many):
                for rows, right, truth, paper in entries[:4] + entries[-2:]:
                    table = Table(told_rows(rows))
                    self.refused(NoSaying, judge, table, saying, paper)
                    self.refused(NoSaying, judge, table, saying, paper, truth)
                    self.refused(NoSaying, judge, truth=not truth, paper=paper, saying=saying, table=table)

    def test_a_saying_mended_and_taken(self):
        table, start, paper = Table([[(1, 1)]]), [], ("answer", [(2, 1)])
        self.refused(NoSaying, judge, table, ("answered", start), paper)
        start.append((-2, 1))
        self.assertIs(judge(table, ("answered", start), paper), True)
        start.append((-2, 1))
        self.refused(NoSaying, judge, table, ("answered", start), paper)


if __name__ == "__main__":
    unittest.main()
