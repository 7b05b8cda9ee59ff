"""Points [2], [3] and [4]: fractions."""

import unittest
from fractions import Fraction
from math import gcd

from eitherslack.errors import NoNumber, SlackError
from eitherslack.numbers import below, lowest, product, total

# Numbers of some nine hundred figures, and of a thousand; the first two have 7 ** 300 in common.
GREAT = 7 ** 1065
GREAT_KIN = 7 ** 300 * 2 ** 2100
GREAT_ODD = 3 ** 1890 + 2
GREATEST = 10 ** 1000 - 1

SMALL = [Fraction(top, bottom) for top in range(-7, 8) for bottom in range(1, 7)]
GREATS = [
    Fraction(GREAT, GREAT_KIN), Fraction(-GREAT, GREAT_ODD), Fraction(GREAT_ODD, GREATEST),
    Fraction(1, GREAT), Fraction(-1, GREAT_KIN), Fraction(GREATEST), Fraction(-GREATEST),
]


def told(number):
    return number.as_integer_ratio()


class FractionCase(unittest.TestCase):
    def check(self, answer, wanted):
        """The answer is a plain fraction in lowest terms, and the wanted one."""
        self.assertIs(type(answer), tuple)
        self.assertEqual(len(answer), 2)
        top, bottom = answer
        self.assertIs(type(top), int)
        self.assertIs(type(bottom), int)
        self.assertTrue(bottom >= 1)
        self.assertTrue(gcd(top, bottom) == 1)
        # No assertEqual: Python refuses to show numbers of more than 4300 figures where it fails.
        self.assertTrue(answer == told(wanted))


class LowestTest(FractionCase):
    def test_small_numbers_of_either_sign(self):
        for top in range(-24, 25):
            for bottom in range(-24, 25):
                if bottom != 0:
                    with self.subTest(top=top, bottom=bottom):
                        self.check(lowest(top, bottom), Fraction(top, bottom))

    def test_some_by_hand(self):
        self.assertEqual(lowest(6, 4), (3, 2))
        self.assertEqual(lowest(-6, 4), (-3, 2))
        self.assertEqual(lowest(6, -4), (-3, 2))
        self.assertEqual(lowest(-6, -4), (3, 2))
        self.assertEqual(lowest(5, 7), (5, 7))
        self.assertEqual(lowest(12, -3), (-4, 1))

    def test_great_numbers(self):
        greats = [GREAT, GREAT_KIN, GREAT_ODD, GREATEST, 1, 7, 10 ** 900]
        for top in greats:
            for bottom in greats:
                for sign in (1, -1):
                    self.check(lowest(sign * top, bottom), Fraction(sign * top, bottom))
                    self.check(lowest(top, sign * bottom), Fraction(top, sign * bottom))
                    self.check(lowest(sign * top, -bottom), Fraction(sign * top, -bottom))

    def test_top_nought(self):
        for bottom in (1, -1, 2, -17, GREAT, -GREATEST):
            self.assertEqual(lowest(0, bottom), (0, 1))

    def test_a_top_alone(self):
        for top in (0, 1, -1, 12, -12, GREAT, -GREATEST):
            self.assertEqual(lowest(top), (top, 1))
            self.assertEqual(lowest(top=top), (top, 1))

    def test_by_names(self):
        self.assertEqual(lowest(top=6, bottom=-4), (-3, 2))
        self.assertEqual(lowest(bottom=-4, top=6), (-3, 2))
        self.assertEqual(lowest(6, bottom=-4), (-3, 2))

    def test_bottom_nought_is_refused(self):
        for top in (0, 1, -1, 60, GREAT, -GREATEST):
            with self.assertRaises(NoNumber) as caught:
                lowest(top, 0)
            self.assertEqual(caught.exception.top, top)
            self.assertIsInstance(caught.exception, SlackError)
            with self.assertRaises(NoNumber) as caught:
                lowest(bottom=0, top=top)
            self.assertEqual(caught.exception.top, top)

    def test_what_was_told_may_be_handed_in_whatever_its_figures(self):
        sum_told = total([told(number) for number in GREATS])
        self.check(lowest(sum_told[0], sum_told[1]), sum(GREATS))
        self.check(lowest(sum_told[1], sum_told[0]), 1 / sum(GREATS))
        with self.assertRaises(NoNumber) as caught:
            lowest(sum_told[0], 0)
        self.assertEqual(caught.exception.top, sum_told[0])


class TotalTest(FractionCase):
    def test_of_none(self):
        self.assertEqual(total([]), (0, 1))
        self.assertEqual(total(numbers=[]), (0, 1))

    def test_of_one(self):
        for number in SMALL + GREATS:
            self.check(total([told(number)]), number)

    def test_of_two(self):
        for one in SMALL:
            for other in SMALL:
                self.check(total([told(one), told(other)]), one + other)

    def test_of_several(self):
        self.assertEqual(total([(1, 2), (1, 3), (1, 6)]), (1, 1))
        self.assertEqual(total([(1, 2), (-3, 4), (1, 4)]), (0, 1))
        self.assertEqual(total([(1, 6), (1, 10), (1, 15)]), (1, 3))
        self.check(total([told(number) for number in SMALL[5:]]), sum(SMALL[5:]))

    def test_of_great_ones(self):
        for one in GREATS:
            for other in GREATS:
                self.check(total([told(one), told(other)]), one + other)
                self.check(total([told(one), told(other), told(-one)]), other)

    def test_of_three_hundred_great_ones(self):
        numbers = [Fraction((-1) ** at * GREAT, GREAT_ODD * 2 ** at) for at in range(300)]
        self.check(total([told(number) for number in numbers]), sum(numbers))

    def test_by_name(self):
        self.assertEqual(total(numbers=[(1, 2), (2, 3)]), (7, 6))

    def test_the_handed_list_stays(self):
        handed = [(1, 2), (1, 2), (-5, 1)]
        self.assertEqual(total(handed), (-4, 1))
        self.assertEqual(handed, [(1, 2), (1, 2), (-5, 1)])
        self.assertEqual(total(handed), (-4, 1))
        handed.append((1, 1))
        self.assertEqual(total(handed), (-3, 1))


class ProductTest(FractionCase):
    def test_small_ones(self):
        for one in SMALL:
            for other in SMALL:
                self.check(product(told(one), told(other)), one * other)

    def test_some_by_hand(self):
        self.assertEqual(product((2, 3), (3, 4)), (1, 2))
        self.assertEqual(product((-2, 3), (3, 2)), (-1, 1))
        self.assertEqual(product((-2, 5), (-3, 7)), (6, 35))
        self.assertEqual(product((0, 1), (-3, 7)), (0, 1))

    def test_great_ones(self):
        for one in GREATS:
            for other in GREATS:
                self.check(product(told(one), told(other)), one * other)
            self.check(product(told(one), told(1 / one)), Fraction(1))
            self.check(product((0, 1), told(one)), Fraction(0))

    def test_by_names(self):
        self.assertEqual(product(one=(2, 3), other=(3, 5)), (2, 5))
        self.assertEqual(product(other=(3, 5), one=(2, 3)), (2, 5))


class BelowTest(unittest.TestCase):
    def test_both_ways_and_of_equal_ones(self):
        numbers = SMALL + GREATS
        for one in numbers:
            for other in numbers:
                self.assertIs(below(told(one), told(other)), one < other)

    def test_some_by_hand(self):
        self.assertIs(below((1, 3), (1, 2)), True)
        self.assertIs(below((1, 2), (1, 3)), False)
        self.assertIs(below((-1, 2), (-1, 3)), True)
        self.assertIs(below((-1, 3), (-1, 2)), False)
        self.assertIs(below((5, 7), (5, 7)), False)
        self.assertIs(below((-1, 1), (0, 1)), True)
        self.assertIs(below((0, 1), (0, 1)), False)

    def test_great_ones_that_are_close(self):
        self.assertIs(below((GREATEST - 1, GREATEST), (GREATEST, GREATEST + 1)), True)
        self.assertIs(below((GREATEST, GREATEST + 1), (GREATEST - 1, GREATEST)), False)

    def test_by_names(self):
        self.assertIs(below(one=(1, 3), other=(1, 2)), True)
        self.assertIs(below(other=(1, 3), one=(1, 2)), False)


class AgainTest(unittest.TestCase):
    def test_asked_again_it_is_answered_the_same(self):
        first = [lowest(6, 4), total([(1, 2), (1, 3)]), product((2, 3), (3, 4)), below((1, 3), (1, 2))]
        with self.assertRaises(NoNumber):
            lowest(5, 0)
        again = [lowest(6, 4), total([(1, 2), (1, 3)]), product((2, 3), (3, 4)), below((1, 3), (1, 2))]
        self.assertEqual(again, first)


if __name__ == "__main__":
    unittest.main()
