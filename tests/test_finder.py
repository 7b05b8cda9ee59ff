"""Points [2], [3], [11] and [12], and of [13] settled: each saying with a paper for it or one against it."""

import random
import unittest
from fractions import Fraction

from eitherslack.errors import NoSaying
from eitherslack.exchanges import exchanged, exchanged_start
from eitherslack.finder import settled
from eitherslack.judge import judge
from eitherslack.tables import Table
from papers import GREATEST, PLAIN_SAYINGS, each_kind, is_paper, renamed_rows, some_start
from reckoning import (
    PLACES, SlackCase, all_choices, answers_of, minor_of, random_row, read_row, read_rows, several_answers, told_row,
    told_rows, turned_rows,
)

FORMS = {
    ("one", True): ("minors", 2), ("one", False): ("two", 4),
    ("few", True): ("minors", 2), ("few", False): ("between", 4),
    ("alone", True): ("weights", 2), ("alone", False): ("beside", 3),
    ("wide", True): ("lift", 2), ("wide", False): ("hold", 2),
    ("level", True): ("squares", 2), ("level", False): ("dip", 2),
    ("answered", True): ("answer", 2), ("answered", False): ("bars", 2),
}


def text_rows(text):
    return [[Fraction(word) for word in line.split()] for line in text.split("; ")]


class SettledCase(SlackCase):
    def truth_of(self, rows, saying):
        """The truth that is told, with a right paper."""
        table = Table(told_rows(rows))
        answer = settled(table, saying)
        self.assertIs(type(answer), tuple)
        truth, paper = answer
        self.assertIn(truth, (True, False))
        self.assertIs(type(truth), bool)
        self.assertIs(type(paper), tuple)
        self.assertEqual((paper[0], len(paper)), FORMS[saying[0], truth])
        self.assertTrue(is_paper(rows, saying, paper, truth), (rows, saying, answer))
        self.assertFalse(is_paper(rows, saying, paper, not truth))
        self.assertIs(judge(table, saying, paper, truth), True)
        self.assertIs(judge(table, saying, paper, not truth), False)
        return truth

    def plain_truths(self, rows):
        return {saying[0]: self.truth_of(rows, saying) for saying in PLAIN_SAYINGS}


class PapersTest(SettledCase):
    def test_tables_of_many_kinds(self):
        source = random.Random(1)
        seen = {}
        for many in PLACES:
            for rows in each_kind(many, 12):
                starts = [some_start(source, many) for turn in range(3)]
                sayings = PLAIN_SAYINGS + [("answered", told_row(start)) for start in starts]
                for saying in sayings:
                    key = (many, saying[0], self.truth_of(rows, saying))
                    seen[key] = seen.get(key, 0) + 1
        # Of each number of places each saying is so of some tables and not of others.
        self.assertEqual(len(seen), len(PLACES) * len(FORMS), seen)

    def test_small_tables_all(self):
        numbers = [Fraction(number) for number in (-1, 0, 1, 2)]
        for first in numbers:
            told_truths = self.plain_truths([[first]])
            wanted = {"few"} if first < 0 else {"level"} if first == 0 else set(told_truths)
            self.assertEqual({word for word in told_truths if told_truths[word]}, wanted)
            for start in (-1, 0, 1):
                wanted = start >= 0 or first > 0
                self.assertIs(self.truth_of([[first]], ("answered", told_row([start]))), wanted)
            for second in numbers:
                for third in numbers:
                    for last in numbers:
                        rows = [[first, second], [third, last]]
                        self.plain_truths(rows)
                        for start in ([-1, -1], [-1, 0], [-1, 1], [0, -2], [1, -1]):
                            self.truth_of(rows, ("answered", told_row(start)))

    def test_few_tables_against_all_answers(self):
        source = random.Random(2)
        for many in PLACES:
            for rows in each_kind(many, 4, seed=2):
                if all(minor_of(rows, choice) != 0 for choice in all_choices(many)):
                    start = some_start(source, many)
                    truth = self.truth_of(rows, ("answered", told_row(start)))
                    self.assertIs(truth, answers_of(rows, start) != [])

    def test_by_hand(self):
        for text, truths in {
                "2 1; 1 2": "one few alone wide level", "1 2; 2 1": "few alone wide", "0 1; -1 0": "level",
                "1 -2; -2 1": "few", "1 2; 0 1": "one few alone wide level", "1 3; 0 1": "one few alone wide",
                "1 1; 1 1": "alone wide level", "1 -1; -1 1": "level", "0": "level", "-3": "few",
                "0 1; 1 0": "wide", "-1 2; 2 -1": "few wide", "1 -1; 3 0": "wide", "-1 1; -1 1": "wide", "-1 -1; -1 -1": ""}.items():
            rows = text_rows(text)
            told_truths = self.plain_truths(rows)
            self.assertEqual({word for word in told_truths if told_truths[word]}, set(truths.split()), text)
        for text, start, truth in (
                ("1 -2; -2 1", [-1, -1], False), ("1 -2; -2 1", [0, 0], True), ("-1", [-1], False),
                ("0 1; -1 0", [-1, -1], False), ("0 1; -1 0", [-1, 1], True), ("0 1; 1 0", [-1, -1], True),
                ("1 1; 1 1", [-1, -2], True), ("0 0; 0 0", [0, 1], True), ("0 0; 0 0", [0, -1], False)):
            self.assertIs(self.truth_of(text_rows(text), ("answered", told_row(start))), truth, (text, start))

    def test_level_tables_of_all_ranks(self):
        source = random.Random(3)
        for many in PLACES:
            for rank in range(many + 1):
                vectors = [random_row(source, many) for turn in range(rank)]
                rows = [[sum((row[i] * row[j] for row in vectors), Fraction(0)) for j in range(many)]
                        for i in range(many)]
                self.assertIs(self.truth_of(rows, ("level",)), True)
                for place in range(many):
                    other = [list(row) for row in rows]
                    other[place][place] -= rows[place][place] + Fraction(1, 9)
                    self.assertIs(self.truth_of(other, ("level",)), False)
                if rank < many:
                    rows[source.randrange(many)][source.randrange(many)] -= Fraction(1, 1000)
                    self.truth_of(rows, ("level",))

    def test_great_numbers(self):
        source = random.Random(4)
        for many in (1, 2, 3):
            rows = [[Fraction(source.randint(-GREATEST, GREATEST), source.randint(1, GREATEST)) for column in range(many)]
                    for row in range(many)]
            start = [Fraction(-source.randint(1, GREATEST), source.randint(1, GREATEST)) for place in range(many)]
            close = [[Fraction(1) + (Fraction(1, GREATEST) if i == j else 0) for j in range(many)] for i in range(many)]
            for table_rows in (rows, close):
                self.plain_truths(table_rows)
                self.truth_of(table_rows, ("answered", told_row(start)))
            told_truths = self.plain_truths(close)
            self.assertEqual(set(told_truths.values()), {True})


class TogetherTest(SettledCase):
    """What hangs together by [10] and [11]."""

    def test_the_sayings_among_themselves(self):
        source = random.Random(5)
        for many in PLACES:
            for rows in each_kind(many, 8, seed=5):
                truths = self.plain_truths(rows)
                self.assertTrue(not truths["one"] or (truths["few"] and truths["alone"]))
                self.assertTrue(not truths["alone"] or truths["wide"])
                start = some_start(source, many)
                answered = self.truth_of(rows, ("answered", told_row(start)))
                self.assertTrue(answered or not (truths["one"] or truths["alone"]))
                self.assertTrue(answered or min(start) < 0)

    def test_the_turned_table(self):
        for many in PLACES:
            for rows in each_kind(many, 8, seed=6):
                truths, others = self.plain_truths(rows), self.plain_truths(turned_rows(rows))
                for word in ("one", "few", "alone", "level"):
                    self.assertIs(truths[word], others[word], (word, rows))

    def test_rows_and_columns_some_times_over(self):
        source = random.Random(7)
        for many in PLACES:
            for rows in each_kind(many, 8, seed=7):
                scales = [Fraction(source.randint(1, 9), source.randint(1, 9)) for place in range(2 * many)]
                scaled = [[scales[i] * scales[many + j] * rows[i][j] for j in range(many)] for i in range(many)]
                truths, others = self.plain_truths(rows), self.plain_truths(scaled)
                for word in ("one", "few", "alone", "wide"):
                    self.assertIs(truths[word], others[word], (word, rows))
                alike = [[scales[i] * scales[j] * rows[i][j] for j in range(many)] for i in range(many)]
                self.assertIs(self.truth_of(alike, ("level",)), truths["level"])
                start = some_start(source, many)
                scaled_start = [scale * number for scale, number in zip(scales, start)]
                self.assertIs(self.truth_of(scaled, ("answered", told_row(scaled_start))),
                              self.truth_of(rows, ("answered", told_row(start))))

    def test_renamed_places(self):
        source = random.Random(8)
        for many in PLACES:
            for rows in each_kind(many, 8, seed=8):
                order = source.sample(range(many), many)
                renamed = renamed_rows(rows, order)
                self.assertEqual(self.plain_truths(rows), self.plain_truths(renamed))
                start = some_start(source, many)
                self.assertIs(self.truth_of(renamed, ("answered", told_row([start[place] for place in order]))),
                              self.truth_of(rows, ("answered", told_row(start))))

    def test_exchanged_tables(self):
        source = random.Random(9)
        for many in PLACES:
            for rows in each_kind(many, 6, seed=9):
                able = [choice for choice in all_choices(many) if minor_of(rows, choice) != 0]
                choice = source.choice(able)
                table, start = Table(told_rows(rows)), told_row(some_start(source, many))
                other = read_rows(exchanged(table, choice).rows())
                truths, others = self.plain_truths(rows), self.plain_truths(other)
                for word in ("one", "few", "level"):
                    self.assertIs(truths[word], others[word], (word, rows, choice))
                self.assertIs(self.truth_of(other, ("answered", exchanged_start(table, start, choice))),
                              self.truth_of(rows, ("answered", start)))

    def test_cut_tables(self):
        for many in PLACES:
            for rows in each_kind(many, 3, seed=10):
                truths = self.plain_truths(rows)
                for choice in all_choices(many, 1):
                    cut = self.plain_truths(read_rows(Table(told_rows(rows)).cut(choice).rows()))
                    for word in ("one", "few", "alone", "level"):
                        self.assertTrue(cut[word] or not truths[word])


class OwnTest(SettledCase):
    def test_by_names_and_places(self):
        source = random.Random(11)
        for many in (1, 2, 3):
            for rows in each_kind(many, 2, seed=11):
                for saying in PLAIN_SAYINGS + [("answered", told_row(some_start(source, many)))]:
                    self.asked_each_way(settled, table=Table(told_rows(rows)), saying=saying)

    def test_told_papers_changed_all_the_way_down(self):
        source = random.Random(12)
        for many in PLACES:
            for rows in each_kind(many, 3, seed=12):
                table = Table(told_rows(rows))
                for saying in PLAIN_SAYINGS + [("answered", told_row(some_start(source, many)))]:
                    truth, paper = self.check_own(lambda: settled(table, saying), saying)
                    self.assertTrue(is_paper(rows, saying, paper, truth))
                    self.assertEqual(table.rows(), told_rows(rows))

    def test_a_start_changed_behind(self):
        table, start = Table(told_rows(text_rows("2 1; 1 2"))), told_row([0, 3])
        truth, paper = settled(table, ("answered", start))
        start[0] = (-5, 1)
        self.assertEqual((truth, paper), (True, ("answer", told_row([0, 0]))))

    def test_told_papers_are_handed_in_again(self):
        rows, start = several_answers(3)
        table = Table(told_rows(rows))
        truth, paper = settled(table, ("one",))
        self.assertIs(truth, False)
        self.assertIs(self.truth_of(rows, ("answered", paper[1])), True)
        self.assertTrue(len(answers_of(rows, read_row(paper[1]))) > 1)


class NoSayingTest(SettledCase):
    def test_tuples_that_are_no_saying(self):
        for many in PLACES:
            row = told_row([1] * many)
            sayings = [(word,) for word in ("", "two", "One", "one ", "minors", "answered", "all", "1", "none")]
            sayings += [(word[0], other) for word in PLAIN_SAYINGS for other in ([], row)]
            sayings += [("answer", row), ("", row), ("answered", row, row), ("answered", row, []), ("one", row, row)]
            sayings += [("answered", wrong) for wrong in self.wrong_lengths(row)]
            for rows in each_kind(many, 1, seed=13):
                table = Table(told_rows(rows))
                for saying in sayings:
                    self.refused(NoSaying, settled, table, saying)
                    self.refused(NoSaying, settled, saying=saying, table=table)


if __name__ == "__main__":
    unittest.main()
