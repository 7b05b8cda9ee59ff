"""The lines of the desk, read as a word and its things: pairs of a kind and a name, or of "told" and no name."""

from eitherslack.errors import NoLine, NoText
from eitherslack.texts import read_paper, read_row, read_saying, read_table

MOST_LETTERS = 8
MOST_SIGNS = 5
LETTERS = "abcdefghijklmnopqrstuvwxyz"
# The lines that are a word and some names, perhaps with a choice at the end: the kinds of their things.
# A "new" name is to stand from now on; the others stand for either, for a table or for a row.
WORD_FORMS = {
    "drop": "either",
    "show": "either",
    "names": "",
    "turn": "new table",
    "exchange": "new table choice",
    "minor": "table choice",
    "gaps": "table row row",
    "answers": "table row",
    "turning": "table",
    "least": "table row",
    "way": "table row",
    "level": "table row",
    "along": "table row row",
}


def has_signs(text, most, signs):
    """Whether a text has from one to so many signs, all of these."""
    return 1 <= len(text) <= most and all([sign in signs for sign in text])


def is_name(text):
    """Whether a text is a name."""
    return has_signs(text, MOST_LETTERS, LETTERS)


def read_thing(kind, text):
    """A name or a choice with its kind."""
    if kind == "choice":
        if not has_signs(text, MOST_SIGNS, "01"):
            raise NoLine("a choice has from one to five signs 0 and 1")
        return ("told", text)
    if not is_name(text):
        raise NoLine("a name has from one to eight small letters")
    return (kind, text)


def read_words(line):
    """The things of a line of words."""
    words = line.split(" ")
    kinds = WORD_FORMS[words[0]].split()
    if len(words) != len(kinds) + 1:
        raise NoLine("this line has more or fewer words")
    return [read_thing(kind, text) for kind, text in zip(kinds, words[1:])]


def read_naming(rest):
    """A name and the text for which it is to stand."""
    name, between, text = rest.partition(" = ")
    return read_thing("new", name), text


def read_table_line(rest):
    """The things of a line that names a table."""
    name, text = read_naming(rest)
    return [name, ("told", read_table(text))]


def read_row_line(rest):
    """The things of a line that names a row."""
    name, text = read_naming(rest)
    return [name, ("told", read_row(text))]


def read_asked(text):
    """A saying, whose start may be a row's name."""
    word, blank, rest = text.partition(" ")
    if word == "answered" and is_name(rest):
        return ("answered", rest)
    return ("told", read_saying(text))


def read_asking(rest):
    """The things of a line that asks: a table's name and a saying."""
    name, blank, saying = rest.partition(" ")
    return [read_thing("table", name), read_asked(saying)]


def read_judging(rest):
    """The things of a line that judges: a table's name, a truth, a saying and a paper."""
    words, colon, paper = rest.partition(": ")
    name, blank, more = words.partition(" ")
    truth, blank, saying = more.partition(" ")
    if truth not in ("yes", "no"):
        raise NoLine("a truth is yes or no")
    return [read_thing("table", name), ("told", truth == "yes"), read_asked(saying), ("told", read_paper(paper))]


REST_FORMS = {
    "table": read_table_line,
    "row": read_row_line,
    "ask": read_asking,
    "why": read_asking,
    "judge": read_judging,
}


def read_order(line):
    """The word of a line, and the list of its things, each with its kind."""
    word, blank, rest = line.partition(" ")
    if word in WORD_FORMS:
        return word, read_words(line)
    if word not in REST_FORMS:
        raise NoLine("a line begins with one of eighteen words")
    reader = REST_FORMS[word]
    try:
        return word, reader(rest)
    except NoText:
        raise NoLine("a part of this line is not written so") from None
