"""Of linear conditions just one of two: numbers that meet them, or weights that bar them."""

from eitherslack.boards import Board
from eitherslack.choices import chosen_places
from eitherslack.rows import ONE, whole_numbers, whole_row, without_divisor


def opening(columns, target):
    """For each place a scale, and the board of what the columns come to beyond the target there.

    Its unknowns are the columns' numbers and then what is beyond, each times its scale, for which it is solved.
    """
    many = len(target)
    scales = []
    lines = []
    for place in range(many):
        scale, wholes = whole_numbers([column[place] for column in columns] + [target[place]])
        beyond = [1 if other == place else 0 for other in range(many)]
        lines.append([-number for number in wholes[:-1]] + beyond + [-wholes[-1]])
        scales.append(scale)
    return scales, Board(lines, [len(columns) + place for place in range(many)])


def weights_of(board, scales, at, sign):
    """The weights that make the line at, or where the sign is -1 its negative, of the places' conditions."""
    line = board.lines[at][-1 - len(scales):-1]
    return without_divisor([sign * number * scale for number, scale in zip(line, scales)])


def solved_tight(board, many, place):
    """Solve a tight place's line for a column's number; tells the sign with which the line bars all, or 0."""
    line = board.lines[place]
    for column in range(many):
        if line[column] != 0:
            board.solve(place, column)
            return 0
    # Nothing is left in the line but what must be 0: it bars all unless its sum is 0 too.
    if line[-1] == 0:
        return 0
    return 1 if line[-1] < 0 else -1


def below_line(board):
    """The line whose number is below 0 and whose unknown has the least column; None where there is none."""
    found = [(column, at) for at, column in enumerate(board.basis) if board.lines[at][-1] < 0]
    return min(found)[1] if found else None


def barring_line(board, free):
    """Solve for free unknowns till no number is below 0; tells a line that bars all, or None."""
    at = below_line(board)
    while at is not None:
        line = board.lines[at]
        columns = [column for column in free if line[column] < 0]
        if not columns:
            return at
        # Always the least column, of the two that are exchanged: so no board comes again (Bland's rule).
        board.solve(at, columns[0])
        at = below_line(board)
    return None


def met_or_barred(columns, target, tight):
    """Numbers and None, or None and weights; each column and the target have as many fractions as tight has signs.

    Numbers: one for each column, none below 0, such that at each place the columns times their numbers come to the
    target or more, at the tight (chosen) places to just the target. Weights: whole numbers, at the places that
    aren't tight none below 0, such that their sum of products with each column is not above 0, with the target
    above 0.
    """
    many = len(columns)
    scales, board = opening(columns, target)
    for place in chosen_places(tight):
        sign = solved_tight(board, many, place)
        if sign != 0:
            return None, weights_of(board, scales, place, sign)
    free = list(range(many)) + [many + place for place, sign in enumerate(tight) if sign == "0"]
    at = barring_line(board, free)
    if at is not None:
        return None, weights_of(board, scales, at, 1)
    return board.numbers(list(range(many))), None


def lift_or_hold(table):
    """Presses that lift all places and None, or None and weights that hold the table down, in whole numbers."""
    columns = table.turned().rows()
    presses, weights = met_or_barred(columns, [ONE] * len(table), "0" * len(table))
    if presses is None:
        return None, weights
    return whole_row(presses), None
