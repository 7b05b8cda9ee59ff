"""Determinants, and systems of as many equations as unknowns, worked out in whole numbers."""

from eitherslack.numbers import lowest
from eitherslack.rows import divided, whole_numbers


def with_pivot(rows, at):
    """The rows ordered, from the row at on, so that its number in the column at isn't 0; None where all are 0."""
    for place in range(at, len(rows)):
        if rows[place][at] != 0:
            result = list(rows)
            if place != at:
                # A row turned about makes up for the two exchanged: the determinant stays.
                result[at], result[place] = rows[place], [-number for number in rows[at]]
            return result
    return None


def cleared_column(rows, at, column, last_pivot):
    """The rows with 0 in the column, but for the row at."""
    pivot_row = rows[at]
    pivot = pivot_row[column]
    result = []
    for place, row in enumerate(rows):
        if place != at:
            # Each of these numbers is a determinant times the last pivot: the division leaves no rest.
            row = [(pivot * number - row[column] * above) // last_pivot for number, above in zip(row, pivot_row)]
        result.append(row)
    return result


def cleared(rows):
    """The determinant of the square that rows of whole numbers begin with, and the rows.

    Where it isn't 0, each row has it at its own place in the square, and 0 at the others.
    """
    result = rows
    pivot = 1
    for at in range(len(rows)):
        result = with_pivot(result, at)
        if result is None:
            return 0, []
        last_pivot, pivot = pivot, result[at][at]
        result = cleared_column(result, at, at, last_pivot)
    return pivot, result


def determinant(rows):
    """The determinant of a square of fractions; 1 where there is no row."""
    parts = [whole_numbers(row) for row in rows]
    top = cleared([wholes for scale, wholes in parts])[0]
    return divided(top, [scale for scale, wholes in parts])


def solutions(square, wanted):
    """The rows of which each column, put to the square's rows, gives the same column of the wanted rows.

    The square's determinant is not 0.
    """
    wholes = [whole_numbers(left + right)[1] for left, right in zip(square, wanted)]
    bottom, rows = cleared(wholes)
    return [[lowest(top, bottom) for top in row[len(square):]] for row in rows]
