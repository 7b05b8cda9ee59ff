"""The tests' own reckoning of what is written as [19] has it, with regular expressions, and texts changed."""

import re
from fractions import Fraction
from math import gcd

WORD = r"(0|-?[1-9][0-9]*)(?:/([1-9][0-9]*))?"
SIGNS = [chr(code) for code in range(32, 127) if chr(code) != "%"]
ROWS_OF = {"minors": 1, "two": 3, "between": 3, "beside": 2, "lift": 1, "hold": 1, "dip": 1, "answer": 1}


def is_fraction(text):
    match = re.fullmatch(WORD, text)
    if match is None:
        return False
    top, bottom = match.group(1), match.group(2)
    if len(top.lstrip("-")) > 40 or len(bottom or "") > 40:
        return False
    return bottom is None or (int(bottom) > 1 and gcd(int(top), int(bottom)) == 1)


def is_row(text):
    return all(is_fraction(word) for word in text.split(" "))


def are_rows(text):
    return all(is_row(part) for part in text.split("; "))


def is_table(text):
    if not are_rows(text):
        return False
    lengths = [len(part.split(" ")) for part in text.split("; ")]
    return len(lengths) <= 5 and set(lengths) == {len(lengths)}


def is_saying(text):
    if text in ("one", "few", "alone", "wide", "level"):
        return True
    return text.startswith("answered ") and is_row(text[9:])


def is_part(text):
    pieces = text.split(" by ")
    return len(pieces) == 2 and is_fraction(pieces[0]) and is_row(pieces[1])


def is_paper(text):
    word, blank, rest = text.partition(" ")
    if word in ROWS_OF:
        return len(rest.split(" | ")) == ROWS_OF[word] and all(is_row(part) for part in rest.split(" | "))
    if word in ("weights", "bars"):
        return are_rows(rest)
    return word == "squares" and (rest == "none" or all(is_part(part) for part in rest.split("; ")))


def row_of(text):
    return [Fraction(word).as_integer_ratio() for word in text.split(" ")]


def rows_of(text):
    return [row_of(part) for part in text.split("; ")]


def paper_of(text):
    word, blank, rest = text.partition(" ")
    if word in ROWS_OF:
        return (word, *[row_of(part) for part in rest.split(" | ")])
    if word in ("weights", "bars"):
        return (word, rows_of(rest))
    parts = [] if rest == "none" else [part.split(" by ") for part in rest.split("; ")]
    return (word, [(row_of(weight)[0], row_of(row)) for weight, row in parts])


def saying_of(text):
    return ("answered", row_of(text[9:])) if text.startswith("answered ") else (text,)


def changed_text(source, text):
    """The text with a sign put in, left out or exchanged, or a piece twice, nowhere or elsewhere."""
    place = source.randrange(len(text) + 1)
    sign = source.choice(SIGNS + list(" ;|/-0123456789" * 4))
    turn = source.randrange(8)
    if turn == 0:
        return text[:place] + sign + text[place:]
    if turn == 1:
        return text[:place] + text[place + 1:]
    if turn == 2:
        return text[:place] + sign + text[place + 1:]
    mark = source.choice([" ", "; ", " | ", " by ", "/", ": ", " = "])
    pieces = text.split(mark)
    at = source.randrange(len(pieces))
    if turn == 3:
        return mark.join(pieces[:at] + pieces[at:at + 1] + pieces[at:])
    if turn == 4:
        return mark.join(pieces[:at] + pieces[at + 1:])
    if turn == 5:
        return mark.join(pieces[:at] + [""] + pieces[at + 1:])
    if turn == 6:
        return mark.join(pieces[at:] + pieces[:at])
    other = source.randrange(len(text) + 1)
    return text[:place] + text[other:]


def odd_numbers():
    """Texts that are not written as fractions are, and some that are."""
    figures = "1234567890" * 4
    return [
        "", "-", "/", "0", "-0", "00", "01", "-01", "1/1", "3/1", "2/4", "-2/4", "0/1", "0/5", "-0/5", "1/0", "0/0",
        "1/-2", "-1/2", "--1", "+1", "1/02", "01/2", "1/2/3", "1/", "/2", "1.5", "1e3", "1_0", " 1", "1 ", "1  2",
        "\t1", "x", "1/x", "~", "1,2", "(1)", "1/ 2", "1 /2", "9" * 40, "-" + "9" * 40, "9" * 41, "-" + "9" * 41,
        figures + "/" + "7" * 39 + "3", "1/" + "9" * 40, "1/" + "9" * 41, "1/1" + "0" * 39, "1/1" + "0" * 40,
        "9" * 1999, "1" * 40 + "/" + "3" * 40, "-1/" + figures[:-1] + "7", "none", "1;", ";1", "1; ", "1|2", "1 | 2",
        "1 by 2", "one", "-", "- 1", "1-", "2-1",
    ]
