"""Whether a table dips no row below 0: parts that are squares, or a row that is dipped."""

from eitherslack.answers import pressed
from eitherslack.elimination import cleared_column
from eitherslack.numbers import lowest
from eitherslack.rows import ONE, put_to, single, whole_numbers, whole_row, without_divisor
from eitherslack.tables import Table


def with_turned(table):
    """The table and its turned one put together."""
    columns = table.turned().rows()
    return Table([put_to(row, column) for row, column in zip(table.rows(), columns)])


def part_of(line, at, bottom):
    """The weight and the row of the square that the line at, a row of whole numbers, takes off."""
    row = without_divisor(line)
    divisor = line[at] // row[at][0]
    return lowest(divisor * divisor, 2 * line[at] * bottom), row


def taken_off(doubled):
    """The squares that can be taken off, the choice of their places, and the whole numbers that are left.

    doubled is a table put together with its turned one.
    """
    wholes = [whole_numbers(row) for row in doubled.rows()]
    lines = [line for scale, line in wholes]
    places = list(range(len(doubled)))
    bottom = 1
    parts = []
    able = [place for place in places if lines[place][place] > 0]
    while able:
        at = able[0]
        parts.append(part_of(lines[at], at, bottom * wholes[at][0]))
        places.remove(at)
        lines = cleared_column(lines, at, at, bottom)
        bottom = lines[at][at]
        able = [place for place in places if lines[place][place] > 0]
    choice = "".join(["0" if place in places else "1" for place in range(len(doubled))])
    return parts, choice, lines


def left_dip(lines, places):
    """A row of some places that what is left dips below 0; None where there is none. No place's own is above 0."""
    for place in places:
        if lines[place][place] < 0:
            return single(len(lines), place, ONE)
    for place in places:
        for other in places:
            if lines[place][other] != 0:
                row = single(len(lines), place, ONE)
                row[other] = (-1, 1) if lines[place][other] > 0 else ONE
                return row
    return None


def squares_or_dip(table):
    """Parts that are squares and None, or None and a row that the table dips below 0."""
    doubled = with_turned(table)
    parts, choice, lines = taken_off(doubled)
    dip = left_dip(lines, [place for place, sign in enumerate(choice) if sign == "0"])
    if dip is None:
        return parts, None
    # At the places of the squares the row is such that all squares taken off are 0 of it.
    others = pressed(doubled, [doubled.times(dip)], choice)[0]
    return None, whole_row(put_to(dip, others))
