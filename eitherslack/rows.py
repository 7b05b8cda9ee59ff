"""Rows of fractions: their signs, their sums of products, and rows put together of two."""

from eitherslack.numbers import common_divisor, product

NOUGHT = (0, 1)
ONE = (1, 1)


def none_below(row):
    """Whether no number of a row is below 0."""
    return all([top >= 0 for top, bottom in row])


def none_above(row):
    """Whether no number of a row is above 0."""
    return all([top <= 0 for top, bottom in row])


def all_above(row):
    """Whether all numbers of a row are above 0."""
    return all([top > 0 for top, bottom in row])


def all_nought(row):
    """Whether all numbers of a row are 0."""
    return all([top == 0 for top, bottom in row])


def negative(number):
    """0 less the fraction."""
    top, bottom = number
    return (-top, bottom)


def whole_numbers(row):
    """The least number from 1 on that makes a row's numbers whole, and the list of these times it."""
    scale = 1
    for top, bottom in row:
        scale = scale // common_divisor(scale, bottom) * bottom
    return scale, [top * (scale // bottom) for top, bottom in row]


def divided(top, scales):
    """The fraction of a whole number divided by each of a list of numbers from 1 on."""
    # Divided by one after the other, so that each common divisor is sought with a lesser number.
    result = (top, 1)
    for scale in scales:
        result = product(result, (1, scale))
    return result


def sum_of_products(one, other):
    """The sum of the products of two rows' numbers, place by place."""
    one_scale, one_wholes = whole_numbers(one)
    other_scale, other_wholes = whole_numbers(other)
    top = sum([left * right for left, right in zip(one_wholes, other_wholes)])
    return divided(top, [one_scale, other_scale])


def put_together(choice, chosen, others):
    """The row that has the one row's numbers at the chosen places and the other row's at the others."""
    return [one if sign == "1" else other for sign, one, other in zip(choice, chosen, others)]
