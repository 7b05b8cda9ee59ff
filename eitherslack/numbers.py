"""Fractions: plain tuples (top, bottom) in lowest terms, bottom from 1 on."""

from eitherslack.divisors import common_divisor
from eitherslack.errors import NoNumber


def lowest(top, bottom=1):
    """The fraction top divided by bottom."""
    if bottom == 0:
        raise NoNumber(top)
    divisor = common_divisor(top, bottom)
    if bottom < 0:
        divisor = -divisor
    return (top // divisor, bottom // divisor)


def sum_of_two(one, other):
    """The sum of two fractions."""
    one_top, one_bottom = one
    other_top, other_bottom = other
    common = common_divisor(one_bottom, other_bottom)
    one_part = one_bottom // common
    top = one_top * (other_bottom // common) + other_top * one_part
    # Both are in lowest terms, so only what divides common can divide the sum's top and bottom:
    # a long sum stays quick, as common has no more figures than the lesser bottom.
    divisor = common_divisor(top, common)
    return (top // divisor, one_part * (other_bottom // divisor))


def total(numbers):
    """The sum of a list of fractions, perhaps none."""
    result = (0, 1)
    for number in numbers:
        result = sum_of_two(result, number)
    return result


def product(one, other):
    """The product of two fractions."""
    # Both are in lowest terms, so only crosswise can a top and a bottom have a divisor in common:
    # these are lesser numbers than the product's own top and bottom.
    first_top, first_bottom = lowest(one[0], other[1])
    second_top, second_bottom = lowest(other[0], one[1])
    return (first_top * second_top, first_bottom * second_bottom)


def below(one, other):
    """Whether the one fraction is less than the other."""
    return one[0] * other[1] < other[0] * one[1]
