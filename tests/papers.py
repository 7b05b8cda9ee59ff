"""The tests' own judge of papers by the words of [12], changed papers, and tables of many kinds."""

import random
from fractions import Fraction

from reckoning import (
    all_choices, answers_start, gaps_of, minor_of, random_row, random_rows, read, read_row, read_rows,
    times_of, told, turned_rows,
)

PLAIN_SAYINGS = [("one",), ("few",), ("alone",), ("wide",), ("level",)]
GREATEST = 10 ** 1000 - 1


def all_minors(rows):
    return [minor_of(rows, choice) for choice in all_choices(len(rows), 1)]


def are_answers(rows, start, *many_presses):
    """Whether lists of any lengths are a start and answers of it."""
    if any(len(row) != len(rows) for row in (start,) + many_presses):
        return False
    return all(answers_start(rows, start, presses) for presses in many_presses)


def lie_between(rows, start, presses, others):
    one_gaps, other_gaps = gaps_of(rows, start, presses), gaps_of(rows, start, others)
    return all(presses[at] == others[at] == 0 or one_gaps[at] == other_gaps[at] == 0 for at in range(len(rows)))


def weighs(rows, choice, row):
    sums = times_of(turned_rows(rows), row)
    if len(row) != len(rows) or min(row) < 0:
        return False
    return all(sums[at] > 0 if sign == "1" else row[at] == 0 for at, sign in enumerate(choice))


def bars(rows, start, choice, row):
    sums = times_of(turned_rows(rows), row)
    if len(row) != len(rows) or sum(one * other for one, other in zip(row, start)) >= 0:
        return False
    return all(sums[at] <= 0 if sign == "1" else row[at] >= 0 for at, sign in enumerate(choice))


def squares_come(rows, parts):
    many = len(rows)
    if any(weight <= 0 or len(row) != many for weight, row in parts):
        return False
    return all(
        rows[i][j] + rows[j][i] == 2 * sum(weight * row[i] * row[j] for weight, row in parts)
        for i in range(many) for j in range(many))


def dip_of(rows, row):
    return sum(one * other for one, other in zip(row, times_of(rows, row)))


def is_paper(rows, saying, paper, truth):
    """The tests' own judge, by the words of [12]."""
    many, word, form = len(rows), saying[0], (saying[0], truth, paper[0])
    if form == ("one", True, "minors"):
        return read_row(paper[1]) == all_minors(rows) and all(number > 0 for number in all_minors(rows))
    if form == ("few", True, "minors"):
        return read_row(paper[1]) == all_minors(rows) and 0 not in all_minors(rows)
    if form in (("one", False, "two"), ("few", False, "between")):
        start, presses, others = read_rows(paper[1:])
        if presses == others or not are_answers(rows, start, presses, others):
            return False
        return word == "one" or lie_between(rows, start, presses, others)
    if form == ("alone", True, "weights"):
        texts, weights = all_choices(many, 1), read_rows(paper[1])
        return len(weights) == len(texts) and all(weighs(rows, *pair) for pair in zip(texts, weights))
    if form == ("alone", False, "beside"):
        start, presses = read_rows(paper[1:])
        return are_answers(rows, start, presses) and min(start) >= 0 and max(presses) > 0
    if form == ("wide", True, "lift"):
        presses = read_row(paper[1])
        return len(presses) == many and min(presses) >= 0 and min(times_of(rows, presses)) > 0
    if form == ("wide", False, "hold"):
        row = read_row(paper[1])
        return len(row) == many and min(row) >= 0 < max(row) and max(times_of(turned_rows(rows), row)) <= 0
    if form == ("level", True, "squares"):
        return squares_come(rows, [(read(weight), read_row(row)) for weight, row in paper[1]])
    if form == ("level", False, "dip"):
        return len(paper[1]) == many and dip_of(rows, read_row(paper[1])) < 0
    if form == ("answered", True, "answer"):
        return are_answers(rows, read_row(saying[1]), read_row(paper[1]))
    if form == ("answered", False, "bars"):
        texts, found = all_choices(many), read_rows(paper[1])
        start = read_row(saying[1])
        return len(found) == len(texts) and all(bars(rows, start, *pair) for pair in zip(texts, found))
    return False


def changed_numbers(number):
    """Other fractions in a fraction's place."""
    value = read(number)
    others = [value + 1, value - 1, -value, value / 2, Fraction(0), value + Fraction(1, GREATEST)]
    return [told(other) for other in others if other != value]


def changed_things(thing):
    """The thing with one number changed, or with one of its lists too short, too long or empty."""
    if isinstance(thing, str):
        return []
    if isinstance(thing, tuple) and isinstance(thing[0], int):
        return changed_numbers(thing)
    found = []
    for place, part in enumerate(thing):
        for other in changed_things(part):
            if isinstance(thing, tuple):
                found.append(thing[:place] + (other,) + thing[place + 1:])
            else:
                found.append(thing[:place] + [other] + thing[place + 1:])
    if isinstance(thing, list):
        found += [thing[:-1], thing[1:], thing[::-1], thing + thing[-1:], thing[:1] + thing, []]
        found.append(thing + thing[-1:] * (300 - len(thing)))
        if thing and isinstance(thing[0], tuple) and isinstance(thing[0][0], int):
            found.append(thing + [(0, 1)])
    return found


def unit(many, place, number=1):
    return [Fraction(number if at == place else 0) for at in range(many)]


def square_parts(source, many):
    parts = [(Fraction(source.randint(1, 6), source.randint(1, 4)), random_row(source, many)) for turn in range(3)]
    return [part for part in parts if any(part[1])]


def rows_of_parts(source, parts, many):
    """Rows that the parts come to, with others that cancel across the diagonal put to them."""
    rows = [[sum((weight * row[i] * row[j] for weight, row in parts), Fraction(0)) for j in range(many)]
            for i in range(many)]
    for i in range(many):
        for j in range(i):
            number = source.randint(-3, 3)
            rows[i][j] += number
            rows[j][i] -= number
    return rows


def steep_rows(source, many):
    """Rows with a diagonal that outweighs the rest of its row: all minors are above 0."""
    rows = random_rows(source, many)
    for place in range(many):
        rows[place][place] = 1 + sum(abs(number) for number in rows[place])
    return rows


def with_diagonal(rows, change):
    return [[change(number) if i == j else number for j, number in enumerate(row)] for i, row in enumerate(rows)]


def sunk_beside(source, many):
    """Rows with no number above 0 beside the diagonal."""
    rows = random_rows(source, many)
    return [[number if i == j else -abs(number) for j, number in enumerate(row)] for i, row in enumerate(rows)]


def raised_and_sunk(source, many):
    """Rows with no number above 0 beside the diagonal, and greater ones on it: some least answers press much."""
    return with_diagonal(sunk_beside(source, many), lambda number: 3 * abs(number) + 1)


def of_squares(source, many):
    return rows_of_parts(source, square_parts(source, many)[:source.randint(0, 3)], many)


def none_below(source, many):
    return [[abs(number) for number in row] for row in random_rows(source, many)]


def twin_rows(source, many):
    rows = random_rows(source, many)
    rows[source.randrange(many)] = list(rows[source.randrange(many)])
    return rows


def small_rows(source, many):
    return [[Fraction(source.randint(-1, 1)) for column in range(many)] for row in range(many)]


def nought_rows(source, many):
    return [[Fraction(0)] * many for row in range(many)]


KINDS = {
    "any": random_rows,
    "steep": steep_rows,
    "sunk beside": sunk_beside,
    "raised and sunk": raised_and_sunk,
    "of squares": of_squares,
    "none below": none_below,
    "twin rows": twin_rows,
    "small": small_rows,
    "noughts": nought_rows,
}


def each_kind(many, count, seed=1):
    """Rows of tables of each kind: the same ones each time."""
    for kind, made in KINDS.items():
        source = random.Random(f"{kind} {many} {seed}")
        for turn in range(count):
            yield made(source, many)


def some_start(source, many):
    """A start of either sign, sometimes without a number below 0, sometimes with noughts."""
    start = random_row(source, many)
    turn = source.randrange(5)
    if turn == 0:
        return [abs(number) for number in start]
    if turn == 1:
        return [number * source.randint(0, 1) for number in start]
    if turn == 2:
        return [-abs(number) for number in start]
    return start


def renamed_rows(rows, order):
    return [[rows[i][j] for j in order] for i in order]


def bars_presses(rows, start, weights):
    """Whether weights are those of a ("none", weights): no presses fit."""
    if len(weights) != len(rows) or min(weights) < 0 or max(times_of(turned_rows(rows), weights)) > 0:
        return False
    return sum(one * other for one, other in zip(weights, start)) < 0
