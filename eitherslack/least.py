"""The least answer, where no number of the table beside its diagonal is above 0."""

from eitherslack.answers import gaps, is_answer, pressed
from eitherslack.checks import check_row
from eitherslack.errors import Lifted
from eitherslack.judge import are_rows, column_sums
from eitherslack.rows import NOUGHT, ONE, negative, none_above, none_below, single, sum_of_products, whole_row


def check_not_lifted(table):
    """Refuse a table with a number above 0 beside its diagonal."""
    for row, numbers in enumerate(table.rows()):
        for column, number in enumerate(numbers):
            if row != column and number[0] > 0:
                raise Lifted(row, column)


def first_below(row):
    """The first place whose number is below 0; None where there is none."""
    for place, number in enumerate(row):
        if number[0] < 0:
            return place
    return None


def chosen_too(choice, place):
    """The choice with one more place chosen."""
    return choice[:place] + "1" + choice[place + 1:]


def least_rows(table, choice):
    """For each place the weights by which no presses that fit are less than those by the choice there."""
    many = len(table)
    starts = [single(many, place, (-1, 1) if sign == "1" else NOUGHT) for place, sign in enumerate(choice)]
    return pressed(table.turned(), starts, choice)


def barring_weights(table, choice, place):
    """Weights that bar all presses, where the place's gap is below 0 by the choice and no press there helps."""
    weights = pressed(table.turned(), [table.rows()[place]], choice)[0]
    weights[place] = ONE
    return whole_row(weights)


def least_answer(table, start):
    """("least", presses, rows), or ("none", weights) where no presses fit."""
    check_row(table, start)
    check_not_lifted(table)
    choice = "0" * len(table)
    presses = pressed(table, [start], choice)[0]
    place = first_below(gaps(table, start, presses))
    # Presses that fit are none below these, so where a gap is below 0 its place must be pressed.
    while place is not None:
        grown = chosen_too(choice, place)
        # All minors within the choice are above 0: a greater press lessens the gap where the grown one's isn't.
        if table.minor(grown)[0] <= 0:
            return ("none", barring_weights(table, choice, place))
        choice = grown
        presses = pressed(table, [start], choice)[0]
        place = first_below(gaps(table, start, presses))
    return ("least", presses, least_rows(table, choice))


def row_bounds(table, start, place, press, row):
    """Whether the row of weights shows that no presses that fit have a lesser press at the place."""
    sums = column_sums(table, row)
    sums[place] = negative(ONE) if sums[place][0] <= sums[place][1] else ONE
    return none_below(row) and none_above(sums) and sum_of_products(row, start) == negative(press)


def least_form_holds(table, start, presses, rows):
    """Whether ("least", presses, rows) is so."""
    if not are_rows(table, [presses]) or len(rows) != len(table) or not are_rows(table, rows):
        return False
    bounds = [row_bounds(table, start, place, presses[place], row) for place, row in enumerate(rows)]
    return all(bounds) and is_answer(table, start, presses)


def none_form_holds(table, start, weights):
    """Whether ("none", weights) is so."""
    if not are_rows(table, [weights]) or not none_below(weights):
        return False
    return none_above(column_sums(table, weights)) and sum_of_products(weights, start)[0] < 0


def least_holds(table, start, paper):
    """Whether a paper of one of the two forms of least_answer is so."""
    check_row(table, start)
    check_not_lifted(table)
    if paper[0] == "least":
        return least_form_holds(table, start, paper[1], paper[2])
    return none_form_holds(table, start, paper[1])
