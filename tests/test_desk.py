"""Points [2], [3] and [20]: the desk and its lines."""

import random
import re
import unittest
from fractions import Fraction

import writing
from eitherslack.answers import all_answers, gaps
from eitherslack.desk import Desk
from eitherslack.errors import (
    Dipped, Flat, Lifted, NoChoice, NoLine, NoName, NoRow, NoSaying, NotOne, SlackError,
)
from eitherslack.exchanges import exchanged
from eitherslack.finder import settled
from eitherslack.judge import judge
from eitherslack.least import least_answer
from eitherslack.lines import along
from eitherslack.signs import turning
from eitherslack.tables import Table
from eitherslack.ways import level_answer, way
from papers import PLAIN_SAYINGS, each_kind, some_start, steep_rows
from reckoning import PLACES, SlackCase, told_row, told_rows

# The forms of lines: T and R are a table's and a row's name, N is any name, S a name that is to stand.
FORMS = {
    "table": "S = TABLE", "row": "S = ROW", "drop": "N", "show": "N", "names": None, "turn": "S T",
    "exchange": "S T CHOICE", "minor": "T CHOICE", "gaps": "T R R", "answers": "T R", "turning": "T", "ask": "T SAYING",
    "why": "T SAYING", "judge": "T TRUTH SAYING: PAPER", "least": "T R", "way": "T R", "level": "T R", "along": "T R R",
}
NAME = "([a-z]{1,8})"
PATTERNS = {"S": NAME, "T": NAME, "R": NAME, "N": NAME, "CHOICE": "([01]{1,5})", "TABLE": "(.*)", "ROW": "(.*)",
            "SAYING": "([^:]*)", "TRUTH": "(yes|no)", "PAPER": "(.*)"}


def fraction_text(number):
    return str(Fraction(*number))


def row_text(row):
    return " ".join(fraction_text(number) for number in row)


def rows_text(rows):
    return "; ".join(row_text(row) for row in rows)


def paper_text(paper):
    if paper[0] in writing.ROWS_OF:
        return paper[0] + " " + " | ".join(row_text(row) for row in paper[1:])
    if paper[0] == "squares":
        parts = "; ".join(fraction_text(weight) + " by " + row_text(row) for weight, row in paper[1])
        return "squares " + (parts or "none")
    return paper[0] + " " + rows_text(paper[1])


def is_asked(text):
    return re.fullmatch("answered " + NAME, text) is not None or writing.is_saying(text)


def parts_of(line):
    """The word and the parts (kind, text) of a line of one of the forms, or None."""
    word = line.split(" ")[0]
    if word not in FORMS:
        return None
    if FORMS[word] is None:
        return (word, []) if line == word else None
    kinds = re.findall("[A-Z]+", FORMS[word])
    pattern = re.sub("[A-Z]+", lambda match: PATTERNS[match.group()], FORMS[word])
    match = re.fullmatch(word + " " + pattern, line)
    if match is None:
        return None
    checks = {"TABLE": writing.is_table, "ROW": writing.is_row, "SAYING": is_asked, "PAPER": writing.is_paper}
    parts = list(zip(kinds, match.groups()))
    return (word, parts) if all(checks.get(kind, len)(text) for kind, text in parts) else None


class OwnDesk:
    """The tests' own desk: what is kept, and the answer or the refusal that a line is due."""

    def __init__(self):
        self.kept = {}

    def wrong_name(self, parts):
        """The first name that stands for nothing, or not for what is wanted."""
        for kind, text in parts:
            if kind == "SAYING" and not writing.is_saying(text):
                kind, text = "R", text.split(" ")[1]
            if kind in "TRN" and (text not in self.kept or kind not in (
                    "N", "T" if isinstance(self.kept[text], Table) else "R")):
                return text
        return None

    def thing(self, kind, text):
        if kind in ("T", "R"):
            return self.kept[text]
        if kind == "SAYING":
            return writing.saying_of(text) if writing.is_saying(text) else ("answered", self.kept[text.split(" ")[1]])
        if kind == "TABLE":
            return Table(writing.rows_of(text))
        made = {"ROW": writing.row_of, "PAPER": writing.paper_of, "TRUTH": lambda word: word == "yes"}
        return made.get(kind, str)(text)

    def due(self, line):
        """("told", text), or a refusal's class and fields."""
        found = parts_of(line)
        if found is None:
            return NoLine, {}
        word, parts = found
        wrong = self.wrong_name(parts)
        if wrong is not None:
            return NoName, {"name": wrong}
        try:
            return "told", self.done(word, [self.thing(kind, text) for kind, text in parts])
        except SlackError as refusal:
            return type(refusal), vars(refusal)

    def done(self, word, things):
        if word in ("table", "row", "turn", "exchange"):
            made = {"turn": lambda table: table.turned(), "exchange": exchanged}.get(word, lambda thing: thing)
            self.kept[things[0]] = made(*things[1:])
            return "ok"
        if word == "drop":
            del self.kept[things[0]]
            return "ok"
        if word == "show":
            thing = self.kept[things[0]]
            return rows_text(thing.rows()) if isinstance(thing, Table) else row_text(thing)
        if word == "names":
            return " ".join(sorted(self.kept)) if self.kept else "none"
        if word == "minor":
            return fraction_text(things[0].minor(things[1]))
        if word == "gaps":
            return row_text(gaps(*things))
        if word == "answers":
            return rows_text(all_answers(*things)) or "none"
        if word == "turning":
            return str(turning(*things))
        return self.asked(word, things)

    def asked(self, word, things):
        if word in ("ask", "why"):
            truth, paper = settled(*things)
            answer = "yes" if truth else "no"
            return answer if word == "ask" else answer + " " + paper_text(paper)
        if word == "judge":
            table, truth, saying, paper = things
            return "right" if judge(table, saying, paper, truth) else "wrong"
        if word == "least":
            paper = least_answer(*things)
            return row_text(paper[1]) if paper[0] == "least" else "none"
        if word == "way":
            found = way(*things)
            return "answer " + row_text(found.answer()) if found.ray() is None else "ray " + row_text(found.ray()[1])
        if word == "level":
            paper = level_answer(*things)
            return row_text(paper[1]) if paper[0] == "answer" else "none"
        return "; ".join(f"{fraction_text(begin)}: {row_text(presses)} by {row_text(rate)}"
                         for begin, presses, rate in along(*things))


def some_name(source, kept, kind):
    """Mostly the name of what is wanted."""
    fitting = [name for name in kept if kind == "N" or isinstance(kept[name], Table) == (kind == "T")]
    if kind != "S" and fitting and source.randrange(8):
        return source.choice(fitting)
    return source.choice(["a", "b", "c", "d", "e", "row", "table", "none", "answered", "abcdefgh", "zz"])


def some_table(source):
    many = source.choice([1, 2, 2, 2, 3])
    return rows_text(told_rows(source.choice(list(each_kind(many, 1, seed=source.randrange(30))))))


def some_row(source):
    return row_text(told_row(some_start(source, source.choice([1, 2, 2, 2, 3]))))


def some_saying(source, kept):
    if source.randint(0, 1):
        return source.choice(PLAIN_SAYINGS)[0]
    return "answered " + (some_name(source, kept, "R") if source.randint(0, 1) else some_row(source))


def some_paper(source, kept):
    """A told paper of a kept table, or another."""
    tables = [thing for thing in kept.values() if isinstance(thing, Table)]
    if tables and source.randrange(4):
        table = source.choice(tables)
        saying = source.choice(PLAIN_SAYINGS + [("answered", told_row(some_start(source, len(table))))])
        return paper_text(settled(table, saying)[1])
    return source.choice(["minors 1 2", "two 1 | 2 | 3", "bars 1; 1", "squares none", "squares 1/2 by 1 2", "dip -1"])


def some_line(source, kept):
    word = source.choice(list(FORMS))
    if FORMS[word] is None:
        return word
    made = {
        "TABLE": lambda: some_table(source), "ROW": lambda: some_row(source), "PAPER": lambda: some_paper(source, kept),
        "SAYING": lambda: some_saying(source, kept), "TRUTH": lambda: source.choice(["yes", "no"]),
        "CHOICE": lambda: "".join(source.choice("01") for sign in range(source.choice([1, 2, 2, 2, 3, 5]))),
    }
    return word + " " + re.sub("[A-Z]+", lambda match: made.get(
        match.group(), lambda: some_name(source, kept, match.group()))(), FORMS[word])


class DeskCase(SlackCase):
    def told(self, desk, own, line):
        """The line is answered or refused as it is due; told is the answer, or the refusal's class."""
        kind, due = own.due(line)
        if kind == "told":
            answer = desk.tell(line)
            self.assertIs(type(answer), str)
            self.assertEqual(answer, due, line)
            return answer
        refusal = self.refused(kind, desk.tell, line)
        self.assertEqual(vars(refusal), due, line)
        return kind

    def told_all(self, *lines):
        """A desk that was told some lines, and the tests' own one."""
        desk, own = Desk(), OwnDesk()
        for line in lines:
            self.assertEqual(self.told(desk, own, line), "ok", line)
        return desk, own

    def check_kept(self, desk, own):
        self.assertEqual(desk.tell("names"), " ".join(sorted(own.kept)) or "none")
        for name in own.kept:
            self.told(desk, own, "show " + name)


class LinesTest(DeskCase):
    def test_by_hand(self):
        desk = Desk()
        for line, answer in (
                ("names", "none"), ("table a = 2 1; 1 2", "ok"), ("row s = -3 1", "ok"), ("names", "a s"),
                ("show a", "2 1; 1 2"), ("show s", "-3 1"), ("minor a 10", "2"), ("minor a 00", "1"), ("minor a 11", "3"),
                ("row p = 1 1/2", "ok"), ("gaps a s p", "-1/2 3"), ("answers a s", "3/2 0"), ("turning a", "1"),
                ("ask a one", "yes"), ("ask a level", "yes"), ("ask a answered s", "yes"), ("ask a answered -1 -1", "yes"),
                ("why a one", "yes minors 2 2 3"), ("why a few", "yes minors 2 2 3"),
                ("why a answered s", "yes answer 3/2 0"), ("judge a yes one: minors 2 2 3", "right"),
                ("judge a no one: minors 2 2 3", "wrong"), ("judge a yes answered s: answer 3/2 0", "right"),
                ("judge a yes answered -3 1: answer 3/2 0", "right"), ("judge a yes answered -3 1: answer 3/2", "wrong"),
                ("judge a yes level: squares 1/2 by 2 1; 3/2 by 0 1", "right"), ("way a s", "answer 3/2 0"),
                ("level a s", "3/2 0"), ("row t = 1 -1", "ok"),
                ("along a s t", "0: 3/2 0 by -1/2 0; 5/3: 2/3 0 by -1 1; 7/3: 0 2/3 by 0 1/2"),
                ("exchange b a 10", "ok"), ("show b", "1/2 -1/2; 1/2 3/2"), ("turn b b", "ok"),
                ("show b", "1/2 1/2; -1/2 3/2"), ("table z = -1", "ok"), ("row m = -1", "ok"), ("answers z m", "none"),
                ("least z m", "none"), ("way z m", "ray 1"), ("ask z answered m", "no"),
                ("why z answered m", "no bars 1; 1"), ("turning z", "0"), ("table n = 0", "ok"), ("level n m", "none"),
                ("why n level", "yes squares none"), ("table l = 3", "ok"), ("least l m", "1/3"), ("drop a", "ok"),
                ("names", "b l m n p s t z"), ("row b = 5", "ok"), ("show b", "5"), ("drop b", "ok"), ("drop l", "ok"),
                ("drop m", "ok"), ("drop n", "ok"), ("drop p", "ok"), ("drop s", "ok"), ("drop t", "ok"), ("drop z", "ok"),
                ("names", "none")):
            self.assertEqual(desk.tell(line), answer, line)

    def test_drawn_lines(self):
        source = random.Random(1)
        seen = {}
        for turn in range(12):
            desk, own = Desk(), OwnDesk()
            for again in range(250):
                line = some_line(source, own.kept)
                answer = self.told(desk, own, line)
                key = (line.split(" ")[0], isinstance(answer, str))
                seen[key] = seen.get(key, 0) + 1
                if not isinstance(answer, str):
                    seen[answer] = seen.get(answer, 0) + 1
                    self.check_kept(desk, own)
            self.check_kept(desk, own)
        for word in FORMS:
            self.assertGreater(seen[word, True], 5, word)
        for refusal in (NoName, NoRow, NoChoice, Flat, NoSaying, Lifted, Dipped, NotOne):
            self.assertIn(refusal, seen)
        self.assertNotIn(NoLine, seen)

    def test_each_form_of_a_table_of_each_kind(self):
        source = random.Random(2)
        for many in PLACES:
            for rows in each_kind(many, 1, seed=2):
                start, step = some_start(source, many), some_start(source, many)
                desk, own = self.told_all("table t = " + rows_text(told_rows(rows)), "row s = " + row_text(told_row(start)),
                                          "row p = " + row_text(told_row(step)))
                for line in ("show t", "minor t " + "1" * many, "gaps t s p", "answers t s", "turning t", "least t s",
                             "way t s", "level t s", "along t s p", "turn u t", "show u", "exchange v t " + "1" * many):
                    self.told(desk, own, line)
                for saying in [word for word, in PLAIN_SAYINGS] + ["answered s", "answered " + row_text(told_row(step))]:
                    self.told(desk, own, "ask t " + saying)
                    truth, blank, paper = self.told(desk, own, "why t " + saying).partition(" ")
                    if len(paper) < 1900 and writing.is_paper(paper):
                        other = "no" if truth == "yes" else "yes"
                        self.assertEqual(self.told(desk, own, f"judge t {truth} {saying}: {paper}"), "right")
                        self.assertEqual(self.told(desk, own, f"judge t {other} {saying}: {paper}"), "wrong")

    def test_names_in_order_of_texts(self):
        names = ["b", "a", "ab", "aa", "z", "abcdefgh", "row", "table", "names", "none", "one", "answered", "yes", "by"]
        desk, own = self.told_all(*[f"row {name} = {at}" for at, name in enumerate(names)])
        self.assertEqual(desk.tell("names"), " ".join(sorted(names)))
        for name in names:
            self.told(desk, own, "show " + name)
        self.told(desk, own, "table table = 1")
        self.told(desk, own, "ask table answered answered")
        self.told(desk, own, "judge table yes answered one: answer 0")

    def test_given_anew_and_dropped(self):
        desk, own = self.told_all("table a = 1 2; 3 4", "row a = 1 2", "table a = 5", "row b = 1", "table b = 6")
        self.assertEqual((desk.tell("show a"), desk.tell("show b"), desk.tell("names")), ("5", "6", "a b"))
        self.assertEqual(self.told(desk, own, "drop a"), "ok")
        self.assertEqual(self.told(desk, own, "drop a"), NoName)
        self.assertEqual(self.told(desk, own, "show a"), NoName)
        self.assertEqual(desk.tell("names"), "b")
        self.assertEqual(self.told(desk, own, "turn a b"), "ok")
        self.assertEqual(desk.tell("names"), "a b")

    def test_turned_and_exchanged_into_names(self):
        desk, own = self.told_all("table a = 1 2; 3 4", "row r = 1 1", "turn b a", "turn a a", "turn r a")
        self.assertEqual([desk.tell("show " + name) for name in "abr"], ["1 3; 2 4", "1 3; 2 4", "1 2; 3 4"])
        self.told(desk, own, "exchange c a 10")
        self.told(desk, own, "exchange a a 11")
        self.told(desk, own, "exchange b c 01")
        self.told(desk, own, "row c = 1 1")
        self.told(desk, own, "exchange c a 11")
        self.assertEqual(desk.tell("show c"), "1 3; 2 4")
        self.check_kept(desk, own)

    def test_two_desks_by_turns(self):
        one, other = Desk(), Desk()
        one.tell("table a = 1")
        self.assertEqual((one.tell("names"), other.tell("names")), ("a", "none"))
        other.tell("row a = 2 3")
        one.tell("row b = 9")
        self.assertEqual((one.tell("show a"), other.tell("show a")), ("1", "2 3"))
        one.tell("drop a")
        self.assertEqual((one.tell("names"), other.tell("names")), ("b", "a"))
        self.refused(NoName, other.tell, "show b")

    def test_by_name(self):
        desk = Desk()
        self.assertEqual(desk.tell(line="table a = 1"), "ok")
        self.assertEqual(self.asked_each_way(desk.tell, line="show a"), "1")
        self.refused(NoLine, desk.tell, line="show")

    def test_great_numbers_and_long_lines(self):
        great = "9" * 40
        desk, own = self.told_all(
            f"table abcdefgh = {great} 1/{great}; -{great}/7 {great}/{int(great) - 1}", f"row s = -{great} -1/{great}",
            "row t = 1 -1")
        for line in ("show abcdefgh", "minor abcdefgh 11", "answers abcdefgh s", "why abcdefgh one", "way abcdefgh s",
                     "along abcdefgh s t", "exchange e abcdefgh 11", "show e", "exchange e e 10", "show e", "turning e",
                     "why abcdefgh alone", "why abcdefgh level", "answers e s", "gaps e s s"):
            self.told(desk, own, line)
        self.assertEqual(desk.tell("row long = " + "1 " * 994 + "1"), "ok")
        self.assertEqual(len(desk.tell("show long").split()), 995)
        for text in (f"table a = {great}9", f"row a = 1/{great}9", "row a = " + "1" * 1992, "names" + " " * 1995,
                     "show " + "a" * 1995, "~" * 2000, "row a = " + "1 " * 996):
            self.refused(NoLine, desk.tell, text)
        self.assertEqual(self.told(desk, own, "judge abcdefgh yes one: minors " + "1 " * 980 + "1"), "wrong")
        self.assertEqual(self.told(desk, own, "ask abcdefgh answered " + "1 " * 980 + "1"), NoSaying)


class NoLineTest(DeskCase):
    def desk(self):
        return self.told_all("table t = 2 1; 1 2", "table one = 1", "row s = -3 1", "row p = 1 1", "row r = 1")

    def test_odd_lines(self):
        desk, own = self.desk()
        for line in (
                "", " ", "names ", " names", "names names", "Names", "name", "help", "table", "table ", "table t",
                "table t =", "table t = ", "table t 1", "table t=1", "table t =1", "table t= 1", "table  t = 1",
                "table t  = 1", "table t =  1", "table t = 1 ", "table T = 1", "table t1 = 1", "table abcdefghi = 1",
                "table = 1", "table t u = 1", "table t = 1 2", "table t = 1; 2", "table t = 1 2; 3", "table t = s",
                "table t = 1 2; 3 4;", "table t = 2/4", "table t = 3/1", "table t = -0", "table t = 01", "table t = 1 = 1",
                "table t = " + "; ".join(["1 1 1 1 1 1"] * 6), "row s = ", "row s = 1;", "row s = 1; 2", "row s = p",
                "row s = 1  2", "row s = 1/1", "row S = 1", "row abcdefghi = 1", "row s", "row", "drop", "drop ", "drop t s",
                "drop T", "drop 1", "drop t ", "drop  t", "show", "show t s", "show t1", "show abcdefghi", "show ",
                "turn", "turn t", "turn t t t", "turn t 1", "turn 1 t", "turn t  t", "exchange t t", "exchange t t 2",
                "exchange t t 111111", "exchange t t 1 1", "exchange t t ", "exchange t 11", "exchange t t t",
                "minor", "minor t", "minor t t", "minor t 000000", "minor t 12", "minor t 1/1", "minor t 1 1", "minor 11",
                "gaps t s", "gaps t s p p", "gaps t s 1 1", "gaps t 1 1 p", "gaps", "gaps t s  p", "answers t", "answers t s p",
                "answers t 1 1", "answers", "turning", "turning t t", "turning 1", "ask", "ask t", "ask t ", "ask one",
                "ask t two", "ask t one ", "ask t  one", "ask t one one", "ask t answered", "ask t answered ",
                "ask t answered S", "ask t answered s p", "ask t answered abcdefghi", "ask t answered 1; 2",
                "ask t answered 2/4", "ask t answered s 1", "ask t minors", "ask  t one", "ask T one", "why t", "why t none",
                "why one t", "why t one: minors 1", "judge t yes one", "judge t yes one:", "judge t yes one: ",
                "judge t one: minors 1", "judge t maybe one: minors 1", "judge t Yes one: minors 1",
                "judge t yes one:minors 1", "judge t yes one : minors 1", "judge t yes one:  minors 1",
                "judge t yes: minors 1", "judge t yes two: minors 1", "judge t yes one: minors", "judge t yes one: minors x",
                "judge t yes one: minors 1 ", "judge t yes one: minors 1: 2", "judge t yes  one: minors 1",
                "judge yes one: minors 1", "judge t true one: minors 1", "judge t yes answered: answer 1",
                "judge t yes answered s: ", "judge t yes answered s p: answer 1", "judge t yes level: squares",
                "judge t yes level: squares none none", "judge t no one: two 1 | 1", "judge t yes alone: weights",
                "judge t no answered s: bars", "judge t no answered s: bars none", "judge t yes few: three 1",
                "least t", "least t s s", "least t 1 1", "way t", "way t s p", "way t s 1", "level t", "level t s p", "along t s",
                "along t s p p", "along t s 1", "along", "judge", "why", "least", "tell names", "names;", "show t;"):
            self.assertIsNone(parts_of(line), line)
            self.assertEqual(self.told(desk, own, line), NoLine, line)
            # Whatever stands: on a new desk as well.
            self.refused(NoLine, Desk().tell, line)
        self.check_kept(desk, own)

    def test_changed_lines(self):
        source = random.Random(3)
        seen = {}
        for turn in range(10):
            desk, own = self.desk()
            for again in range(300):
                line = writing.changed_text(source, some_line(source, own.kept))
                if source.randint(0, 1):
                    line = writing.changed_text(source, line)
                answer = self.told(desk, own, line)
                key = str if isinstance(answer, str) else answer
                seen[key] = seen.get(key, 0) + 1
            self.check_kept(desk, own)
        for key in (str, NoLine, NoName):
            self.assertGreater(seen[key], 50, key)

    def test_odd_numbers(self):
        desk, own = self.desk()
        for odd in writing.odd_numbers():
            for frame in ("table x = #", "table x = 1 #; 2 3", "row x = #", "row x = 1 #", "ask t answered 1 #",
                          "judge t yes one: minors # 1", "judge t yes answered #: answer 1 2", "minor t #", "exchange x t #",
                          "show #", "gaps t s #"):
                self.told(desk, own, frame.replace("#", odd))

    def test_each_sign(self):
        desk, own = self.desk()
        for sign in writing.SIGNS:
            for frame in ("show t#", "#show t", "show# t", "show #t", "table#t = 1", "table t =# 1", "row s = 1#1",
                          "minor t 1#", "ask t one#", "judge t yes one#: minors 1", "judge t yes one:# minors 1"):
                self.told(desk, own, frame.replace("#", sign))


class RefusedTest(DeskCase):
    def desk(self):
        return self.told_all("table t = 2 1; 1 2", "table z = 1 1; 1 1", "table d = -1 0; 0 -1", "row s = -3 1",
                             "row p = 1 1", "row r = 1")

    def check_refused(self, desk, own, line, kind, **fields):
        self.assertEqual(self.told(desk, own, line), kind, line)
        self.assertEqual(vars(self.refused(kind, desk.tell, line)), fields, line)

    def test_no_name(self):
        desk, own = self.desk()
        for line, name in (
                ("drop x", "x"), ("show x", "x"), ("turn x x", "x"), ("turn t s", "s"), ("turn new s", "s"),
                ("exchange x x 1", "x"), ("exchange t s 11", "s"), ("minor x 1", "x"), ("minor s 111", "s"),
                ("gaps x y w", "x"), ("gaps t y w", "y"), ("gaps t s w", "w"), ("gaps s t p", "s"), ("gaps t t s", "t"),
                ("gaps t s t", "t"), ("answers x s", "x"), ("answers t x", "x"), ("answers s t", "s"), ("answers t z", "z"),
                ("turning x", "x"), ("turning s", "s"), ("ask x one", "x"), ("ask s one", "s"), ("ask x answered y", "x"),
                ("ask t answered y", "y"), ("ask t answered t", "t"), ("why s answered 1", "s"), ("why t answered x", "x"),
                ("judge x yes one: minors 1", "x"), ("judge t yes answered x: answer 1", "x"),
                ("judge s no answered x: answer 1", "s"), ("judge t no answered z: bars 1", "z"), ("least x y", "x"),
                ("least t y", "y"), ("least s p", "s"), ("way t z", "z"), ("way x s", "x"), ("level s s", "s"),
                ("level t x", "x"), ("along t x y", "x"), ("along t s y", "y"), ("along t s t", "t"), ("along s p t", "s")):
            self.check_refused(desk, own, line, NoName, name=name)
        self.check_kept(desk, own)

    def test_the_refusals_of_each_stage(self):
        desk, own = self.desk()
        for line, kind, fields in (
                ("minor t 1", NoChoice, {}), ("minor t 111", NoChoice, {}), ("exchange t t 1", NoChoice, {}),
                ("exchange new t 11111", NoChoice, {}), ("exchange z z 11", Flat, {"choice": "11"}),
                ("exchange new z 11", Flat, {"choice": "11"}), ("gaps t r p", NoRow, {}), ("gaps t p r", NoRow, {}),
                ("answers t r", NoRow, {}), ("answers z r", NoRow, {}), ("answers z s", Flat, {"choice": "11"}),
                ("turning z", Flat, {"choice": "11"}), ("ask t answered r", NoSaying, {}),
                ("ask t answered 1 2 3", NoSaying, {}), ("why z answered r", NoSaying, {}),
                ("judge t yes answered r: answer 1", NoSaying, {}), ("judge t no answered 1: bars 1", NoSaying, {}),
                ("least t r", NoRow, {}), ("least t s", Lifted, {"row": 0, "column": 1}), ("way t r", NoRow, {}),
                ("level d r", NoRow, {}), ("along z r s", NoRow, {}), ("along z s r", NoRow, {}),
                ("along z s s", NotOne, {"choice": "11"}), ("along d s s", NotOne, {"choice": "01"})):
            self.check_refused(desk, own, line, kind, **fields)
        refusal = self.refused(Dipped, desk.tell, "level d s")
        kept = list(refusal.row)
        refusal.row.clear()
        self.assertEqual(self.refused(Dipped, desk.tell, "level d s").row, kept)
        self.check_kept(desk, own)
        self.assertEqual(desk.tell("names"), "d p r s t z")

    def test_refused_lines_change_nothing(self):
        source = random.Random(4)
        desk, own = self.told_all("table t = " + rows_text(told_rows(steep_rows(source, 3))), "row s = 1 2 3")
        before = (desk.tell("names"), desk.tell("show t"), desk.tell("show s"))
        for line in ("table t = 1 2", "row s = 1;", "turn t s", "turn s x", "exchange t t 1", "exchange s t 0101",
                     "exchange t x 1", "drop x", "table s = -0", "row t = 1/1", "turn x x", "exchange x x 111"):
            self.refused(self.told(desk, own, line), desk.tell, line)
            self.assertEqual((desk.tell("names"), desk.tell("show t"), desk.tell("show s")), before)


if __name__ == "__main__":
    unittest.main()
