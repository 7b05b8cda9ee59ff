"""Rows, tables, sayings and papers as texts, written and read."""

from eitherslack.divisors import common_divisor
from eitherslack.errors import NoTable, NoText
from eitherslack.figures import fraction_text, written_row
from eitherslack.judge import PLAIN_SAYINGS
from eitherslack.tables import Table

MOST_FIGURES = 40
ROW_BREAK = "; "
THING_BREAK = " | "
WEIGHT_BREAK = " by "
# How many rows the papers have that are made of rows alone.
ROW_PAPERS = {"minors": 1, "two": 3, "between": 3, "beside": 2, "lift": 1, "hold": 1, "dip": 1, "answer": 1}
LIST_PAPERS = ("weights", "bars")


def row_text(row):
    """A row's fractions with a blank between two."""
    return written_row(row)


def saying_text(saying):
    """A saying's word, and for "answered" the start."""
    return " ".join([saying[0]] + [row_text(row) for row in saying[1:]])


def rows_text(rows):
    """A list of rows with ; and a blank between two."""
    return ROW_BREAK.join([row_text(row) for row in rows])


def squares_text(parts):
    """The parts of "squares"."""
    if not parts:
        return "none"
    return ROW_BREAK.join([fraction_text(weight) + WEIGHT_BREAK + row_text(row) for weight, row in parts])


def paper_text(paper):
    """A paper's word and its things."""
    word = paper[0]
    if word == "squares":
        return word + " " + squares_text(paper[1])
    if word in LIST_PAPERS:
        return word + " " + rows_text(paper[1])
    return word + " " + THING_BREAK.join([row_text(row) for row in paper[1:]])


def read_figures(text):
    """The whole number from 0 on that is written in figures."""
    if not 1 <= len(text) <= MOST_FIGURES or not all([sign in "0123456789" for sign in text]):
        raise NoText("a number has from one to forty figures")
    if len(text) > 1 and text[0] == "0":
        raise NoText("the first figure of two or more is no 0")
    return int(text)


def read_top(text):
    """The whole number that is written in figures, perhaps with a - ahead."""
    if not text.startswith("-"):
        return read_figures(text)
    top = -read_figures(text[1:])
    if top == 0:
        raise NoText("no text is -0")
    return top


def read_fraction(text):
    """The fraction of a text."""
    if "/" not in text:
        return (read_top(text), 1)
    top_text, slash, bottom_text = text.partition("/")
    top, bottom = read_top(top_text), read_figures(bottom_text)
    if bottom < 2 or common_divisor(top, bottom) > 1:
        raise NoText("a fraction is written with the least numbers, its bottom where that is above 1")
    return (top, bottom)


def read_row(text):
    """The row of a text."""
    return [read_fraction(word) for word in text.split(" ")]


def read_rows(text):
    """The list of rows of a text."""
    return [read_row(part) for part in text.split(ROW_BREAK)]


def read_table(text):
    """The table of a text."""
    rows = read_rows(text)
    try:
        return Table(rows)
    except NoTable:
        raise NoText("these rows make no table") from None


def read_saying(text):
    """The saying of a text; a start may have any length."""
    if (text,) in PLAIN_SAYINGS:
        return (text,)
    word, blank, rest = text.partition(" ")
    if word != "answered":
        raise NoText("a saying is one of six words, answered with a start")
    return (word, read_row(rest))


def read_part(text):
    """A part of "squares"."""
    weight, between, row = text.partition(WEIGHT_BREAK)
    return (read_fraction(weight), read_row(row))


def read_squares(text):
    """The parts of "squares"."""
    if text == "none":
        return []
    return [read_part(part) for part in text.split(ROW_BREAK)]


def read_paper(text):
    """The paper of a text; its numbers may be any fractions."""
    word, blank, rest = text.partition(" ")
    if word == "squares":
        return (word, read_squares(rest))
    if word in LIST_PAPERS:
        return (word, read_rows(rest))
    if word not in ROW_PAPERS:
        raise NoText("a paper begins with one of eleven words")
    things = rest.split(THING_BREAK)
    if len(things) != ROW_PAPERS[word]:
        raise NoText("a paper has as many rows as its form")
    return (word,) + tuple([read_row(thing) for thing in things])
