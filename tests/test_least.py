"""Points [2], [3] and [14]: least answers, and papers that say so."""

import random
import unittest
from fractions import Fraction

from eitherslack.errors import Lifted, NoRow
from eitherslack.least import least_answer, least_holds
from eitherslack.tables import Table
from papers import (
    GREATEST, bars_presses, changed_things, each_kind, raised_and_sunk, sunk_beside, some_start, twin_rows,
)
from reckoning import (
    PLACES, SlackCase, all_choices, answers_start, fits_of, minor_of, presses_by, random_row, read_row, read_rows,
    times_of, told_row, told_rows, turned_rows,
)


def sunk_tables(many, count, seed=1):
    """Rows without a number above 0 beside the diagonal, of several kinds."""
    source = random.Random(100 * seed + many)
    for turn in range(count):
        yield raised_and_sunk(source, many)
        yield sunk_beside(source, many)
        twins = twin_rows(source, many)
        yield [[number if i == j else -abs(number) for j, number in enumerate(row)] for i, row in enumerate(twins)]
        yield [[Fraction(source.randint(-1, 1) if i == j else source.randint(-1, 0)) for j in range(many)]
               for i in range(many)]
    yield [[Fraction(0)] * many for place in range(many)]
    yield [[Fraction(many - 1 if i == j else -1) for j in range(many)] for i in range(many)]


def fitted_start(source, rows):
    """A start of which drawn presses fit, with drawn gaps."""
    many = len(rows)
    presses = [abs(number) * source.randint(0, 1) for number in random_row(source, many)]
    gaps = [abs(number) * source.randint(0, 1) for number in random_row(source, many)]
    return [gap - lift for gap, lift in zip(gaps, times_of(rows, presses))], presses


def row_is_so(rows, start, place, press, row):
    if len(row) != len(rows) or min(row) < 0:
        return False
    sums = times_of(turned_rows(rows), row)
    if any(number > (1 if at == place else 0) for at, number in enumerate(sums)):
        return False
    return sum(one * other for one, other in zip(row, start)) == -press


def is_so(rows, start, paper):
    """The tests' own reckoning of a paper, by the words of [14]."""
    if paper[0] == "none":
        return bars_presses(rows, start, read_row(paper[1]))
    presses, weights = read_row(paper[1]), read_rows(paper[2])
    if len(presses) != len(rows) or len(weights) != len(rows) or not answers_start(rows, start, presses):
        return False
    return all(row_is_so(rows, start, place, presses[place], row) for place, row in enumerate(weights))


class LeastCase(SlackCase):
    def least(self, rows, start):
        """What is told, in the told form, so by the tests' own reckoning and by the program's."""
        table = Table(told_rows(rows))
        paper = least_answer(table, told_row(start))
        self.assertIs(type(paper), tuple)
        self.assertIn((paper[0], len(paper)), (("least", 3), ("none", 2)))
        self.assertTrue(is_so(rows, start, paper), (rows, start, paper))
        self.assertIs(least_holds(table, told_row(start), paper), True)
        return paper


class LeastAnswerTest(LeastCase):
    def test_starts_that_drawn_presses_fit(self):
        source = random.Random(1)
        for many in PLACES:
            for rows in sunk_tables(many, 10):
                for turn in range(3):
                    start, presses = fitted_start(source, rows)
                    paper = self.least(rows, start)
                    self.assertEqual(paper[0], "least")
                    self.assertTrue(all(one <= other for one, other in zip(read_row(paper[1]), presses)))

    def test_starts_without_a_number_below(self):
        source = random.Random(2)
        for many in PLACES:
            for rows in sunk_tables(many, 5):
                start = [abs(number) for number in random_row(source, many)]
                paper = self.least(rows, start)
                self.assertEqual(paper[:2], ("least", told_row([0] * many)))

    def test_starts_that_no_presses_fit(self):
        source = random.Random(3)
        seen = {}
        for many in PLACES:
            for rows in sunk_tables(many, 10):
                for turn in range(3):
                    form = self.least(rows, some_start(source, many))[0]
                    seen[many, form] = seen.get((many, form), 0) + 1
                sunk = [[-abs(number) for number in row] for row in rows]
                start = random_row(source, many)
                start[source.randrange(many)] = Fraction(-1, 7)
                self.assertEqual(self.least(sunk, start)[0], "none")
        self.assertEqual(len(seen), 2 * len(PLACES), seen)

    def test_against_all_choices(self):
        """The least of all presses that are 0 or have a gap of 0 at each place, where some of them fit."""
        source = random.Random(4)
        for many in PLACES:
            for rows in sunk_tables(many, 6):
                start = some_start(source, many)
                fitting = []
                for choice in all_choices(many):
                    if minor_of(rows, choice) != 0:
                        presses = presses_by(rows, start, choice)
                        if fits_of(rows, start, presses):
                            fitting.append(presses)
                paper = self.least(rows, start)
                if paper[0] == "none":
                    self.assertEqual(fitting, [])
                else:
                    self.assertIn(read_row(paper[1]), fitting)
                    for presses in fitting:
                        self.assertTrue(all(one <= other for one, other in zip(read_row(paper[1]), presses)))

    def test_by_hand(self):
        rows = [[Fraction(2), Fraction(-1)], [Fraction(-1), Fraction(2)]]
        for start, presses in (([-3, 0], [2, 1]), ([-1, 5], [Fraction(1, 2), 0]), ([-1, -1], [1, 1]), ([0, 0], [0, 0]),
                               ([1, -4], [Fraction(2, 3), Fraction(7, 3)])):
            self.assertEqual(self.least(rows, [Fraction(number) for number in start])[:2], ("least", told_row(presses)))
        rows = [[Fraction(1), Fraction(-1)], [Fraction(-1), Fraction(1)]]
        self.assertEqual(self.least(rows, [Fraction(-1), Fraction(1)])[:2], ("least", told_row([1, 0])))
        self.assertEqual(self.least(rows, [Fraction(-1), Fraction(0)])[0], "none")
        self.assertEqual(self.least([[Fraction(-1)]], [Fraction(-1)])[0], "none")
        self.assertEqual(self.least([[Fraction(3)]], [Fraction(-1)]), ("least", [(1, 3)], [[(1, 3)]]))

    def test_great_numbers(self):
        rows = [[Fraction(GREATEST), Fraction(-1, GREATEST)], [Fraction(1 - GREATEST, 7), Fraction(1, 3)]]
        self.assertEqual(self.least(rows, [Fraction(-1, GREATEST), Fraction(-GREATEST)])[0], "least")
        rows[1][1] = Fraction(1, 7 * GREATEST)
        self.assertEqual(self.least(rows, [Fraction(-1, GREATEST), Fraction(-GREATEST)])[0], "least")
        rows[1][1] = Fraction(GREATEST - 1, 7 * GREATEST ** 2)
        self.assertEqual(self.least(rows, [Fraction(-1, GREATEST), Fraction(-GREATEST)])[0], "none")


class LeastHoldsTest(LeastCase):
    def check_holds(self, rows, start, paper):
        wanted = is_so(rows, start, paper)
        answer = least_holds(Table(told_rows(rows)), told_row(start), paper)
        self.assertIs(answer, wanted, (rows, start, paper))
        return answer

    def other_papers(self, paper):
        """The paper changed at one number or in one list, with rows exchanged, doubled or left out."""
        others = changed_things(paper)
        if paper[0] == "least":
            rows = paper[2]
            for place in range(len(rows)):
                others.append(("least", paper[1], rows[:place] + rows[place + 1:]))
                others.append(("least", paper[1], rows[1:place + 1] + rows[:1] + rows[place + 1:]))
                others.append(("least", rows[place], rows))
            others += [("none", row) for row in rows + [paper[1]]]
        else:
            others += [("least", paper[1], [paper[1]] * len(paper[1])), ("none", [(0, 1)] * len(paper[1]))]
        return others

    def test_changed_papers(self):
        source = random.Random(5)
        seen = set()
        for many in PLACES:
            for rows in sunk_tables(many, 3, seed=5):
                for start in (fitted_start(source, rows)[0], some_start(source, many)):
                    paper = self.least(rows, start)
                    others = self.other_papers(paper)
                    for other in source.sample(others, min(len(others), 40)):
                        seen.add((paper[0], other[0], self.check_holds(rows, start, other)))
        self.assertTrue({("least", "least", False), ("none", "none", True), ("none", "none", False),
                         ("least", "least", True), ("least", "none", False), ("none", "least", False)} <= seen)

    def test_changed_starts_and_tables(self):
        source = random.Random(6)
        for many in PLACES:
            for rows in sunk_tables(many, 2, seed=6):
                start = some_start(source, many)
                paper = self.least(rows, start)
                for place in range(many):
                    for change in (Fraction(1), Fraction(-1, 7)):
                        other = list(start)
                        other[place] += change
                        self.check_holds(rows, other, paper)
                        others = [list(row) for row in rows]
                        others[place][place] += change
                        self.check_holds(others, start, paper)
                        others[place][0] -= abs(change)
                        self.check_holds(others, start, paper)

    def test_other_answers_are_not_least(self):
        rows = [[Fraction(1), Fraction(-2)], [Fraction(-2), Fraction(1)]]
        start = [Fraction(1), Fraction(1)]
        weights = told_rows([[0, 0], [0, 0]])
        self.assertTrue(self.check_holds(rows, start, ("least", told_row([0, 0]), weights)))
        self.assertTrue(answers_start(rows, start, [Fraction(1), Fraction(1)]))
        self.assertFalse(self.check_holds(rows, start, ("least", told_row([1, 1]), weights)))

    def test_lists_of_any_lengths(self):
        lengths = (0, 1, 2, 3, 5, 6, 300)
        for many in PLACES:
            rows = next(sunk_tables(many, 1))
            start = [Fraction(-1)] * many
            for length in lengths:
                self.check_holds(rows, start, ("none", [(1, 1)] * length))
                for other in lengths:
                    self.check_holds(rows, start, ("least", [(1, 1)] * length, [[(1, 1)] * other] * many))
                    self.check_holds(rows, start, ("least", [(1, 1)] * many, [[(1, 1)] * other] * length))


class RefusedTest(LeastCase):
    def test_the_first_place_by_rows(self):
        source = random.Random(7)
        for many in PLACES:
            for rows in each_kind(many, 4, seed=7):
                table, start = Table(told_rows(rows)), told_row(some_start(source, many))
                lifted = [(i, j) for i in range(many) for j in range(many) if i != j and rows[i][j] > 0]
                paper = ("none", start)
                if not lifted:
                    self.least(rows, read_row(start))
                    continue
                for refusal in (self.refused(Lifted, least_answer, table, start),
                                self.refused(Lifted, least_holds, table, start, paper),
                                self.refused(Lifted, least_holds, paper=("least", [], []), start=start, table=table)):
                    self.assertEqual((refusal.row, refusal.column), lifted[0])

    def test_one_number_above(self):
        for many in PLACES:
            for row in range(many):
                for column in range(many):
                    rows = [[Fraction(0)] * many for place in range(many)]
                    rows[row][column] = Fraction(1, GREATEST)
                    table, start = Table(told_rows(rows)), told_row([-1] * many)
                    if row == column:
                        self.least(rows, read_row(start))
                    else:
                        refusal = self.refused(Lifted, least_answer, start=start, table=table)
                        self.assertEqual((refusal.row, refusal.column), (row, column))

    def test_no_row_goes_ahead(self):
        for many in PLACES:
            for rows in each_kind(many, 1, seed=8):
                table = Table(told_rows(rows))
                for wrong in self.wrong_lengths([(1, 1)] * many):
                    self.refused(NoRow, least_answer, table, wrong)
                    self.refused(NoRow, least_answer, start=wrong, table=table)
                    self.refused(NoRow, least_holds, table, wrong, ("none", [(1, 1)] * many))
                    self.refused(NoRow, least_holds, paper=("least", wrong, [wrong]), start=wrong, table=table)


class OwnTest(LeastCase):
    def test_by_names_and_places(self):
        source = random.Random(9)
        for many in PLACES:
            for rows in sunk_tables(many, 1, seed=9):
                table, start = Table(told_rows(rows)), told_row(some_start(source, many))
                paper = self.asked_each_way(least_answer, table=table, start=start)
                self.assertIs(self.asked_each_way(least_holds, table=table, start=start, paper=paper), True)
                self.assertIs(self.asked_each_way(least_holds, table=table, start=start, paper=("none", [])), False)

    def test_told_papers_changed(self):
        source = random.Random(10)
        for many in PLACES:
            for rows in sunk_tables(many, 2, seed=10):
                table, start = Table(told_rows(rows)), told_row(some_start(source, many))
                paper = self.check_own(lambda: least_answer(table, start), start)
                self.assertTrue(is_so(rows, read_row(start), paper))


if __name__ == "__main__":
    unittest.main()
