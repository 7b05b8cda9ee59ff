"""Fractions of many figures: the greatest common divisor, in the short and in the long way."""

import math
import random
import unittest

from eitherslack.divisors import common_divisor
from eitherslack.numbers import lowest, product, total


class CommonDivisorTest(unittest.TestCase):
    def check(self, one, other):
        for pair in ((one, other), (other, one), (-one, other), (one, -other)):
            self.assertEqual(common_divisor(*pair), math.gcd(*pair))

    def test_drawn_numbers(self):
        source = random.Random(1)
        for bits in (1, 40, 3000, 5990, 6010, 20000):
            for others in (1, 40, 3000, 6010, 20000):
                for common in (1, 30, 7000):
                    for turn in range(5):
                        divisor = source.getrandbits(common) + 1
                        self.check(source.getrandbits(bits) * divisor, source.getrandbits(others) * divisor)

    def test_neighbours_and_powers(self):
        for bits in (10, 6000, 7001, 20000):
            power = 1 << bits
            for shift in (0, 1, 2, 239, 240, 241, 479, 480, 481, 5000):
                for change in (-1, 0, 1):
                    self.check(power + change, (power >> shift) + 1)
                    self.check(power - 1, power >> shift)
            self.check(0, power)
            self.check(power, power)

    def test_the_longest_ways(self):
        one, other = 0, 1
        for turn in range(12000):
            one, other = other, one + other
        self.check(one, other)
        self.check(one * 10 ** 2000, other * 10 ** 2000)

    def test_fractions(self):
        top, bottom = 7 ** 9000, 6 ** 9000
        self.assertEqual(lowest(top * 12, -bottom * 8), (-top, 4 * 6 ** 8999))
        self.assertEqual(product((top, bottom), (bottom, top)), (1, 1))
        self.assertEqual(total([(top, bottom), (-top, bottom), (1, bottom), (1, 3)]),
                         (1 + bottom // 3, bottom))


if __name__ == "__main__":
    unittest.main()
