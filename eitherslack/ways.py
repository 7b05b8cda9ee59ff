"""Ways of almost answers that come to an answer or to a ray."""

from eitherslack.boards import Board
from eitherslack.checks import check_row
from eitherslack.errors import Dipped, NoCover
from eitherslack.rows import NOUGHT, ONE, all_above, none_below, whole_numbers, without_divisor
from eitherslack.squares import squares_or_dip


class Way:
    """A row of almost answers, and a ray where the last one has a lift above 0; it never changes."""

    def __init__(self, points, beam):
        # Tuples, so that nobody who holds a list of these presses can change the way.
        self.points = tuple([(lift, tuple(presses)) for lift, presses in points])
        self.beam = None if beam is None else (beam[0], tuple(beam[1]))

    def __len__(self):
        return len(self.points)

    def __eq__(self, other):
        return isinstance(other, Way) and self.points == other.points and self.beam == other.beam

    def __str__(self):
        if self.beam is None:
            return f"answer {len(self.points)}"
        return f"ray {len(self.points)}"

    def steps(self):
        """The almost answers: a list of tuples of a lift and presses."""
        return [(lift, list(presses)) for lift, presses in self.points]

    def answer(self):
        """The presses of the last step, where its lift is 0, else None."""
        lift, presses = self.points[-1]
        return list(presses) if lift == NOUGHT else None

    def ray(self):
        """None, or a tuple of a lift and presses."""
        if self.beam is None:
            return None
        return (self.beam[0], list(self.beam[1]))


def checked_cover(table, cover):
    """The cover, all 1 where it is None."""
    if cover is None:
        return [ONE] * len(table)
    check_row(table, cover)
    if not all_above(cover):
        raise NoCover("all numbers of a cover are above 0")
    return cover


def opening(table, start, cover):
    """The board of the gaps: its unknowns are the gaps, each times a scale, the presses and the lift."""
    many = len(table)
    lines = []
    for place, row in enumerate(table.rows()):
        wholes = whole_numbers(row + [cover[place], start[place]])[1]
        own = [1 if other == place else 0 for other in range(many)]
        lines.append(own + [-number for number in wholes[:-1]] + wholes[-1:])
    return Board(lines, list(range(many)))


def goes_ahead(board, column, one, other):
    """Whether a line, divided by its number in the column without its sign, goes ahead of another one.

    The sums go first, then the gaps' columns: no two lines are alike in these, so no way goes in a ring.
    """
    one_line, other_line = board.lines[one], board.lines[other]
    for place in [-1] + list(range(len(board.lines))):
        left = one_line[place] * abs(other_line[column])
        right = other_line[place] * abs(one_line[column])
        if left != right:
            return left < right
    return False


def foremost(board, column, lines):
    """Of some lines the one that goes ahead of all the others."""
    best = lines[0]
    for at in lines[1:]:
        if goes_ahead(board, column, at, best):
            best = at
    return best


def other_side(board, column):
    """The column of the press where the gap's is handed in, and the other way about."""
    many = len(board.lines)
    return column + many if column < many else column - many


def step_of(board):
    """The lift and the presses that the board tells."""
    many = len(board.lines)
    numbers = board.numbers(list(range(many, 2 * many + 1)))
    return numbers[-1], numbers[:-1]


def ray_of(board, column):
    """The lift and the presses by which all goes on when the column's unknown grows without an end."""
    many = len(board.lines)
    growths = {basic: -line[column] for basic, line in zip(board.basis, board.lines)}
    growths[column] = board.bottom
    numbers = without_divisor([growths.get(place, 0) for place in range(many, 2 * many + 1)])
    return numbers[-1], numbers[:-1]


def walked(board):
    """The steps and the ray, or None, from a start with a number below 0."""
    many = len(board.lines)
    column = 2 * many
    lines = list(range(many))
    steps = []
    while lines:
        at = foremost(board, column, lines)
        left = board.basis[at]
        board.solve(at, column)
        step = step_of(board)
        if not steps or steps[-1] != step:
            steps.append(step)
        if step[0] == NOUGHT:
            return steps, None
        # What has just become 0 stays 0, and its other side grows.
        column = other_side(board, left)
        lines = [place for place, line in enumerate(board.lines) if line[column] > 0]
    return steps, ray_of(board, column)


def way(table, start, cover=None):
    """The way from presses 0 and the least lift that goes."""
    check_row(table, start)
    cover = checked_cover(table, cover)
    if none_below(start):
        return Way([(NOUGHT, [NOUGHT] * len(table))], None)
    steps, ray = walked(opening(table, start, cover))
    return Way(steps, ray)


def level_answer(table, start):
    """("answer", presses), or ("none", weights) where no presses fit, of a table that dips no row below 0."""
    check_row(table, start)
    dip = squares_or_dip(table)[1]
    if dip is not None:
        raise Dipped(dip)
    told = way(table, start)
    presses = told.answer()
    if presses is not None:
        return ("answer", presses)
    # Of such a table the ray's lift is 0 and its presses bar all presses.
    return ("none", told.ray()[1])
