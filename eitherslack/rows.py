"""Rows of fractions: their signs, their sums of products, rows made whole, and rows put together of two."""

from eitherslack.choices import chosen_places
from eitherslack.divisors import common_divisor
from eitherslack.numbers import product, total

NOUGHT = (0, 1)
ONE = (1, 1)


def none_below(row):
    """Whether no number of a row is below 0."""
    return all([top >= 0 for top, bottom in row])


def none_above(row):
    """Whether no number of a row is above 0."""
    return all([top <= 0 for top, bottom in row])


def all_above(row):
    """Whether all numbers of a row are above 0."""
    return all([top > 0 for top, bottom in row])


def all_nought(row):
    """Whether all numbers of a row are 0."""
    return all([top == 0 for top, bottom in row])


def negative(number):
    """0 less the fraction."""
    top, bottom = number
    return (-top, bottom)


def put_to(one, other):
    """The sums of two rows' numbers, place by place."""
    return [total([left, right]) for left, right in zip(one, other)]


def single(many, place, number):
    """The row of so many numbers that has the number at one place and 0 at the others."""
    row = [NOUGHT] * many
    row[place] = number
    return row


def above_part(row):
    """The row with 0 for each number below 0."""
    return [number if number[0] > 0 else NOUGHT for number in row]


def whole_numbers(row):
    """The least number from 1 on that makes a row's numbers whole, and the list of these times it."""
    scale = 1
    for top, bottom in row:
        scale = scale // common_divisor(scale, bottom) * bottom
    return scale, [top * (scale // bottom) for top, bottom in row]


def without_divisor(wholes):
    """The row of whole numbers divided by their greatest common divisor."""
    divisor = 0
    for number in wholes:
        divisor = common_divisor(divisor, number)
    if divisor == 0:
        return [NOUGHT for number in wholes]
    return [(number // divisor, 1) for number in wholes]


def whole_row(row):
    """The row times the number above 0 that makes its numbers whole, without a common divisor above 1."""
    return without_divisor(whole_numbers(row)[1])


def divided(top, scales):
    """The fraction of a whole number divided by each of a list of numbers from 1 on."""
    # Divided by one after the other, so that each common divisor is sought with a lesser number.
    result = (top, 1)
    for scale in scales:
        result = product(result, (1, scale))
    return result


def sum_of_products(one, other):
    """The sum of the products of two rows' numbers, place by place."""
    one_scale, one_wholes = whole_numbers(one)
    other_scale, other_wholes = whole_numbers(other)
    top = sum([left * right for left, right in zip(one_wholes, other_wholes)])
    return divided(top, [one_scale, other_scale])


def put_together(choice, chosen, others):
    """The row that has the one row's numbers at the chosen places and the other row's at the others."""
    return [one if sign == "1" else other for sign, one, other in zip(choice, chosen, others)]


def spread(choice, numbers):
    """The row that has the numbers, in order, at the chosen places and 0 at the others."""
    row = [NOUGHT] * len(choice)
    for place, number in zip(chosen_places(choice), numbers):
        row[place] = number
    return row
