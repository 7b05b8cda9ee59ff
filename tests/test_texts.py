"""Points [2], [3] and [19]: rows, tables, sayings and papers as texts, written and read."""

import random
import sys
import unittest
from fractions import Fraction
from math import gcd

import writing
from eitherslack.errors import NoText
from eitherslack.finder import settled
from eitherslack.tables import Table
from eitherslack.texts import paper_text, read_paper, read_row, read_saying, read_table, row_text, saying_text
from papers import PLAIN_SAYINGS, each_kind, some_start
from reckoning import PLACES, SlackCase, random_row, told, told_row, told_rows

READERS = (
    (read_row, writing.is_row, writing.row_of, row_text),
    (read_table, writing.is_table, lambda text: Table(writing.rows_of(text)), str),
    (read_saying, writing.is_saying, writing.saying_of, saying_text),
    (read_paper, writing.is_paper, writing.paper_of, paper_text),
)
MOST = 10 ** 40 - 1


def great_number(source):
    """A fraction with tops and bottoms of up to forty figures."""
    top = source.randint(-MOST, MOST) // 10 ** source.randint(0, 40)
    bottom = max(1, source.randint(0, MOST) // 10 ** source.choice([0, 20, 38, 39, 40]))
    return told(Fraction(top, bottom))


def any_row(source, most=6):
    made = great_number if source.randint(0, 3) == 0 else lambda some: told(random_row(some, 1)[0])
    return [made(source) for place in range(source.randint(1, most))]


def any_rows(source):
    return [any_row(source) for turn in range(source.randint(1, 5))]


def any_papers(source):
    """A paper of each of the eleven words, with lists of any lengths from one on."""
    papers = [(word, *[any_row(source) for turn in range(many)]) for word, many in writing.ROWS_OF.items()]
    papers += [("weights", any_rows(source)), ("bars", any_rows(source)), ("squares", [])]
    papers.append(("squares", [(great_number(source), row) for row in any_rows(source)]))
    return papers


def any_texts(source):
    """A text of a row, a table, each saying and each paper."""
    many = source.randint(1, 5)
    rows = [[told(random_row(source, 1)[0]) for column in range(many)] for row in range(many)]
    sayings = PLAIN_SAYINGS + [("answered", any_row(source))]
    texts = [row_text(any_row(source)), str(Table(rows))] + [saying_text(saying) for saying in sayings]
    return texts + [paper_text(paper) for paper in any_papers(source)]


class TextCase(SlackCase):
    def check_read(self, text):
        """Each reader reads the text just where it is written so; told are the readers that do."""
        found = []
        for reader, is_written, meant, writer in READERS:
            if is_written(text):
                answer = reader(text)
                wanted = meant(text)
                self.assertEqual(answer, wanted, text)
                self.assertIs(type(answer), type(wanted))
                self.assertEqual(writer(answer), text)
                found.append(reader)
            else:
                self.refused(NoText, reader, text)
        return found


class WrittenTest(TextCase):
    def test_by_hand(self):
        self.assertEqual(row_text([(0, 1), (-1, 1), (3, 2), (-10, 7)]), "0 -1 3/2 -10/7")
        self.assertEqual(row_text([(5, 1)]), "5")
        self.assertEqual(str(Table([[(2, 1), (1, 2)], [(-1, 3), (0, 1)]])), "2 1/2; -1/3 0")
        self.assertEqual(repr(Table([[(2, 1), (1, 2)], [(-1, 3), (0, 1)]])), "Table(2 1/2; -1/3 0)")
        for word in ("one", "few", "alone", "wide", "level"):
            self.assertEqual(saying_text((word,)), word)
        self.assertEqual(saying_text(("answered", [(-1, 1), (1, 2)])), "answered -1 1/2")
        one, two, three = [(1, 1)], [(1, 1), (-2, 1)], [(0, 1), (1, 3), (5, 1)]
        for paper, text in (
                (("minors", two), "minors 1 -2"), (("two", one, two, three), "two 1 | 1 -2 | 0 1/3 5"),
                (("between", three, two, one), "between 0 1/3 5 | 1 -2 | 1"), (("weights", [two, one]), "weights 1 -2; 1"),
                (("beside", two, one), "beside 1 -2 | 1"), (("lift", one), "lift 1"), (("hold", two), "hold 1 -2"),
                (("squares", [((1, 2), two), ((-3, 1), one)]), "squares 1/2 by 1 -2; -3 by 1"),
                (("squares", []), "squares none"), (("dip", three), "dip 0 1/3 5"), (("answer", two), "answer 1 -2"),
                (("bars", [one]), "bars 1"), (("bars", [three, one, two]), "bars 0 1/3 5; 1; 1 -2")):
            self.assertEqual(self.asked_each_way(paper_text, paper=paper), text)
            self.assertEqual(self.asked_each_way(read_paper, text=text), paper)

    def test_written_and_read_again(self):
        source = random.Random(1)
        for turn in range(60):
            row = any_row(source)
            self.assertEqual(self.asked(read_row, self.asked(row_text, row)), row)
            saying = ("answered", row)
            self.assertEqual(self.asked(read_saying, self.asked(saying_text, saying)), saying)
            for paper in any_papers(source):
                text = self.asked(paper_text, paper)
                self.assertTrue(writing.is_paper(text))
                self.assertEqual(self.asked(read_paper, text), paper)
        for many in PLACES:
            for rows in each_kind(many, 2):
                table = Table(told_rows(rows))
                self.assertEqual(read_table(str(table)), table)
                self.assertIs(type(read_table(str(table))), Table)

    def test_told_papers(self):
        source = random.Random(2)
        for many in PLACES:
            for rows in each_kind(many, 2, seed=2):
                for saying in PLAIN_SAYINGS + [("answered", told_row(some_start(source, many)))]:
                    truth, paper = settled(Table(told_rows(rows)), saying)
                    self.assertEqual(read_paper(paper_text(paper)), paper)

    def test_up_to_four_thousand_figures(self):
        before = sys.get_int_max_str_digits()
        for figures in (41, 63, 64, 65, 128, 129, 640, 1000, 3999, 4000, 4300, 5000):
            top, bottom = 10 ** figures - 1, 10 ** (figures - 1)
            middle = "1" + "0" * (figures - 2) + "7"
            self.assertEqual(row_text([(-top, bottom), (bottom, 1)]), f"-{'9' * figures}/1{'0' * (figures - 1)} "
                                                                     f"1{'0' * (figures - 1)}")
            number = (bottom + 7, 1)
            self.assertEqual(paper_text(("squares", [(number, [number])])), f"squares {middle} by {middle}")
            self.assertEqual(saying_text(("answered", [number])), f"answered {middle}")
            self.assertEqual(str(Table([[number]])), middle)
        self.assertEqual(sys.get_int_max_str_digits(), before)

    def test_by_names(self):
        self.assertEqual(self.asked_each_way(row_text, row=[(1, 2)]), "1/2")
        self.assertEqual(self.asked_each_way(saying_text, saying=("answered", [(1, 2)])), "answered 1/2")
        self.assertEqual(self.asked_each_way(read_row, text="1/2"), [(1, 2)])
        self.assertEqual(self.asked_each_way(read_table, text="1/2"), Table([[(1, 2)]]))
        self.assertEqual(self.asked_each_way(read_saying, text="answered 1/2 3"), ("answered", [(1, 2), (3, 1)]))


class ReadTest(TextCase):
    def test_each_text_is_read_where_it_is_written_so(self):
        source = random.Random(3)
        seen = set()
        for turn in range(20):
            for text in any_texts(source):
                seen |= set(self.check_read(text))
        self.assertEqual(len(seen), 4)

    def test_changed_texts(self):
        source = random.Random(4)
        read, refused = 0, 0
        for turn in range(60):
            for text in any_texts(source):
                for again in range(6):
                    other = writing.changed_text(source, text)
                    if again & 1:
                        other = writing.changed_text(source, other)
                    if self.check_read(other):
                        read += 1
                    else:
                        refused += 1
        self.assertGreater(read, 1000)
        self.assertGreater(refused, 1000)

    def test_odd_numbers_at_each_place(self):
        for odd in writing.odd_numbers():
            for frame in ("#", "1 #", "# 1", "1 2; # 4", "answered #", "answered 1 #", "minors #", "minors 1 # 2",
                          "two # | 1 | 1", "two 1 | # | 1", "two 1 | 1 | #", "between 1 | 1 | # 1", "beside # | 1",
                          "beside 1 | #", "lift #", "hold #", "dip #", "answer #", "weights #", "weights 1; #", "bars #",
                          "bars # 1; 2", "squares #", "squares # by 1", "squares 1 by #", "squares 1 by 1 #; 1 by 2",
                          "squares 1 by 1; # by 2"):
                self.check_read(frame.replace("#", odd))

    def test_odd_texts(self):
        for text in (
                "", " ", "one", "One", "one ", " one", "one 1", "few", "alone", "wide", "level", "answered", "answered ",
                "answered  1", "answered 1 ", "answered; 1", "answered x", "answered 1; 2", "answered one", "none",
                "1 2; 3 4", "1 2;3 4", "1 2 ; 3 4", "1 2;  3 4", "1 2; 3 4;", "1 2; 3 4; ", "; 1", "1 2", "1; 2", "1 2; 3",
                "1; 2 3", "1 2; 3 4; 5 6", "1 2; 3 4 5", "1 1 1 1 1; 1 1 1 1 1; 1 1 1 1 1; 1 1 1 1 1; 1 1 1 1 1",
                "; ".join(["1 1 1 1 1 1"] * 6), "minors", "minors ", "minors none", "minors 1 | 2", "minors 1; 2",
                "minors  1", " minors 1", "Minors 1", "two 1 | 2", "two 1 | 2 | 3", "two 1 | 2 | 3 | 4", "two 1|2|3",
                "two 1 |2 | 3", "two 1 | 2 | ", "between 1 | 2 | 3", "between 1 2 3", "beside 1", "beside 1 | 2",
                "beside 1 | 2 | 3", "weights", "weights ", "weights none", "weights 1", "weights 1; 2 3", "weights 1 | 2",
                "bars", "bars ", "bars none", "bars 1", "bars 1;2", "bars 1; ", "lift 1; 2", "lift", "hold", "hold 1 | 1",
                "squares", "squares ", "squares none", "squares  none", "squares none ", "squares none; 1 by 1",
                "squares 1 by 1", "squares 0 by 1", "squares -1 by 1", "squares 1 by ", "squares by 1", "squares 1 by by 1",
                "squares 1 by 1 by 1", "squares 1", "squares 1 1 by 1", "squares 1 by 1; 1", "squares 1 by 1 2; 3/2 by 4",
                "squares 1  by 1", "squares 1 by  1", "squares 1by1", "dip 1", "dip", "answer 1 2", "answer", "answer none",
                "three 1", "least 1 | 1", "1 " * 999 + "1", "-1 " * 600 + "0", "answered " + "7 " * 900 + "7",
                "weights " + "1; " * 600 + "1", "~" * 2000, " " * 2000, "1" * 2000, "; " * 1000, "yes one"):
            self.check_read(text)

    def test_each_sign_alone_and_among_others(self):
        for sign in writing.SIGNS:
            for text in (sign, "1" + sign, sign + "1", "1" + sign + "2", "1 " + sign + " 2", "minors 1" + sign + "3",
                         "answered 1" + sign + "3", "1 2" + sign + " 3 4", "squares 2" + sign + "by 3"):
                self.check_read(text)

    def test_forty_figures(self):
        for figures in (1, 39, 40, 41, 42, 100):
            top, bottom = int("7" * figures), int("3" * (figures - 1) + "2")
            if bottom > 1 and gcd(top, bottom) == 1:
                for number in ((top, bottom), (-top, bottom), (1, bottom), (-5, top)):
                    text = row_text([number])
                    if figures <= 40:
                        self.assertEqual(read_row(text), [number])
                    else:
                        self.refused(NoText, read_row, text)
                    self.check_read("dip " + text)


class OwnTest(TextCase):
    def test_told_lists_changed(self):
        for reader, text in ((read_row, "1 2 -3/4"), (read_saying, "answered 1 1"), (read_paper, "two 1 1 | 1 1 | 1 1"),
                             (read_paper, "weights 1 1; 1 1; 1 1"), (read_paper, "squares 1 by 1 1; 1 by 1 1"),
                             (read_paper, "bars 0; 0"), (read_paper, "minors 1")):
            self.check_own(lambda: reader(text))
        self.assertEqual(self.check_own(lambda: read_paper("beside 1 | 1")), ("beside", [(1, 1)], [(1, 1)]))
        parts = read_paper("squares none")[1]
        parts.append(5)
        self.assertEqual(read_paper("squares none"), ("squares", []))


if __name__ == "__main__":
    unittest.main()
