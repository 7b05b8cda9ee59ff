"""Boards: equations in whole numbers, each solved for another unknown, that are solved for others step by step."""

from eitherslack.elimination import cleared_column
from eitherslack.numbers import lowest


class Board:
    """Lines of whole numbers over one bottom above 0, a column for each unknown and the last one for the sums.

    basis tells for each line its unknown: its column has the bottom in this line and 0 in the others. With 0 for
    all unknowns without a line, the number of a line's unknown is the line's sum divided by the bottom.
    """

    def __init__(self, lines, basis):
        self.lines = [list(line) for line in lines]
        self.basis = list(basis)
        self.bottom = 1

    def solve(self, at, column):
        """Solve the line at for the unknown of the column instead of its own."""
        if self.lines[at][column] < 0:
            # So that the bottom stays above 0.
            self.lines[at] = [-number for number in self.lines[at]]
        self.lines = cleared_column(self.lines, at, column, self.bottom)
        self.bottom = self.lines[at][column]
        self.basis[at] = column

    def numbers(self, columns):
        """The numbers of some unknowns, with 0 for all that have no line."""
        tops = {column: line[-1] for column, line in zip(self.basis, self.lines)}
        return [lowest(tops.get(column, 0), self.bottom) for column in columns]
