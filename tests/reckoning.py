"""The tests' own reckoning, in Python's Fractions, and what several test files check with."""

import copy
import random
import unittest
from fractions import Fraction
from itertools import product
from math import gcd

PLACES = range(1, 6)


def told(number):
    """A number as the program's plain tuple."""
    return Fraction(number).as_integer_ratio()


def told_row(row):
    return [told(number) for number in row]


def told_rows(rows):
    return [told_row(row) for row in rows]


def read(number):
    return Fraction(*number)


def read_row(row):
    return [read(number) for number in row]


def read_rows(rows):
    return [read_row(row) for row in rows]


def all_choices(many, least=0):
    texts = ["".join(signs) for signs in product("10", repeat=many)]
    return sorted(text for text in texts if text.count("1") >= least)


def places_of(choice):
    return [place for place, sign in enumerate(choice) if sign == "1"]


def cut_rows(rows, choice):
    return [[rows[row][column] for column in places_of(choice)] for row in places_of(choice)]


def determinant_of(rows):
    """Along the first row."""
    if not rows:
        return Fraction(1)
    result = Fraction(0)
    for column, number in enumerate(rows[0]):
        if number != 0:
            rest = [row[:column] + row[column + 1:] for row in rows[1:]]
            result += (-1) ** column * number * determinant_of(rest)
    return result


def minor_of(rows, choice):
    return determinant_of(cut_rows(rows, choice))


def times_of(rows, row):
    return [sum((one * other for one, other in zip(numbers, row)), Fraction(0)) for numbers in rows]


def turned_rows(rows):
    return [list(column) for column in zip(*rows)]


def gaps_of(rows, start, presses):
    return [before + lift for before, lift in zip(start, times_of(rows, presses))]


def fits_of(rows, start, presses):
    return min(presses) >= 0 and min(gaps_of(rows, start, presses)) >= 0


def answers_start(rows, start, presses):
    if not fits_of(rows, start, presses):
        return False
    return all(press * gap == 0 for press, gap in zip(presses, gaps_of(rows, start, presses)))


def presses_by(rows, start, choice):
    """The presses 0 where it isn't chosen with gaps 0 where it is, by quotients of determinants."""
    places = places_of(choice)
    square = cut_rows(rows, choice)
    bottom = determinant_of(square)
    presses = [Fraction(0)] * len(rows)
    for column, place in enumerate(places):
        replaced = [list(row) for row in square]
        for row, at in zip(replaced, places):
            row[column] = -start[at]
        presses[place] = determinant_of(replaced) / bottom
    return presses


def text_of(presses):
    return "".join("1" if press > 0 else "0" for press in presses)


def answers_of(rows, start):
    """All answers of a few table, each once, in order of texts."""
    found = []
    for choice in all_choices(len(rows)):
        presses = presses_by(rows, start, choice)
        if answers_start(rows, start, presses) and presses not in found:
            found.append(presses)
    return sorted(found, key=text_of)


def random_number(source, greatest=4):
    return Fraction(source.randint(-greatest, greatest), source.choice([1, 1, 1, 2, 3, 5]))


def random_row(source, many, greatest=4):
    return [random_number(source, greatest) for place in range(many)]


def random_rows(source, many, greatest=4):
    return [random_row(source, many, greatest) for place in range(many)]


def sample_rows(many, count, seed=1):
    """Rows of so many tables of so many places: the same ones each time."""
    source = random.Random(100 * seed + many)
    return [random_rows(source, many, greatest) for greatest in (1, 2, 4, 9) for turn in range(count // 4)]


def few_rows(many, count, seed=1):
    """Rows of so many tables without a minor that is 0."""
    source = random.Random(1000 * seed + many)
    found = []
    while len(found) < count:
        rows = random_rows(source, many)
        if all(minor_of(rows, choice) != 0 for choice in all_choices(many)):
            found.append(rows)
    return found


def several_answers(many):
    """Rows and a start with an answer for each choice: each press is 0, or the gap is."""
    rows = [[Fraction(-5) if row == column else Fraction(1, 3 + row + column) for column in range(many)]
            for row in range(many)]
    return rows, [Fraction(2 + place) for place in range(many)]


def is_number(thing):
    return type(thing) is tuple and len(thing) == 2 and type(thing[0]) is int


def lists_in(thing):
    """All lists in a told thing, all the way down."""
    found = [thing] if isinstance(thing, list) else []
    if isinstance(thing, (list, tuple)) and not is_number(thing):
        for part in thing:
            found += lists_in(part)
    return found


def numbers_in(thing):
    """All fractions in a told thing, all the way down."""
    if is_number(thing):
        return [thing]
    if isinstance(thing, (list, tuple)):
        return [number for part in thing for number in numbers_in(part)]
    return []


class SlackCase(unittest.TestCase):
    def asked(self, function, *arguments, **named):
        """What the function tells, asked twice: the same each time, and nothing handed in is changed."""
        before = copy.deepcopy((arguments, named))
        first = function(*arguments, **named)
        again = function(*arguments, **named)
        self.assertEqual((arguments, named), before)
        self.assertEqual(first, again)
        return first

    def asked_each_way(self, function, **named):
        """What the function tells, asked by names in either order and by places: the same each time."""
        told_by_names = self.asked(function, **named)
        turned_about = dict(reversed(list(named.items())))
        self.assertEqual(self.asked(function, **turned_about), told_by_names)
        self.assertEqual(self.asked(function, *named.values()), told_by_names)
        return told_by_names

    def refused(self, refusal, function, *arguments, **named):
        """The error of a refusal of just this class, which changes nothing that is handed in."""
        before = copy.deepcopy((arguments, named))
        with self.assertRaises(refusal) as caught:
            function(*arguments, **named)
        self.assertIs(type(caught.exception), refusal)
        self.assertEqual((arguments, named), before)
        return caught.exception

    def check_row(self, answer, wanted):
        """The answer is a plain list of plain fractions, and the wanted ones."""
        self.assertIs(type(answer), list)
        for number in answer:
            self.check_plain(number)
        self.assertEqual(answer, told_row(wanted))

    def check_plain(self, number):
        self.assertIs(type(number), tuple)
        self.assertEqual([type(part) for part in number], [int, int])

    def wrong_lengths(self, row):
        """The row shortened and lengthened, and an empty one."""
        return [[], row[:-1], row + [(0, 1)], row + row[:1] * 295]

    def check_own(self, ask, *handed):
        """What is told is the asker's own, all the way down; told is what ask tells."""
        answer = ask()
        before = copy.deepcopy(answer)
        found = lists_in(answer)
        theirs = {id(thing) for part in handed for thing in lists_in(part)}
        self.assertEqual(len({id(thing) for thing in found} - theirs), len(found), answer)
        for number in numbers_in(answer):
            self.check_plain(number)
            self.assertTrue(number[1] >= 1 and gcd(*number) == 1, number)
        for thing in found[::-1]:
            thing.append((77, 1))
            thing[0] = [(5, 3)]
            if len(thing) > 2:
                del thing[1]
        self.assertEqual(ask(), before)
        return before
