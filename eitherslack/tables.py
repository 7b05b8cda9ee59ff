"""Tables of fractions, with as many rows as columns: one for each place."""

from eitherslack.checks import check_choice, check_row
from eitherslack.choices import MOST_PLACES, choices, chosen_places
from eitherslack.elimination import determinant
from eitherslack.errors import NoChoice, NoTable
from eitherslack.figures import written_row
from eitherslack.rows import sum_of_products


class Table:
    """A table of one to five places; it never changes."""

    def __init__(self, rows):
        if not 1 <= len(rows) <= MOST_PLACES:
            raise NoTable(-1)
        for place, row in enumerate(rows):
            if len(row) != len(rows):
                raise NoTable(place)
        # Tuples, so that nobody who holds a list of these rows can change the table.
        self.grid = tuple([tuple(row) for row in rows])

    def __len__(self):
        return len(self.grid)

    def __eq__(self, other):
        return isinstance(other, Table) and self.grid == other.grid

    def __str__(self):
        return "; ".join([written_row(row) for row in self.grid])

    def __repr__(self):
        return f"Table({str(self)})"

    def rows(self):
        """The rows, as a list of lists."""
        return [list(row) for row in self.grid]

    def times(self, row):
        """The row of the sums of products of each row of the table with the row."""
        check_row(self, row)
        return [sum_of_products(numbers, row) for numbers in self.grid]

    def turned(self):
        """The table whose rows are this one's columns."""
        return Table([list(column) for column in zip(*self.grid)])

    def square(self, choice):
        """The chosen places' rows and columns, in order, perhaps none."""
        places = chosen_places(choice)
        return [[self.grid[row][column] for column in places] for row in places]

    def cut(self, choice):
        """The table of the chosen places' rows and columns, in order."""
        check_choice(self, choice)
        if "1" not in choice:
            raise NoChoice("a table has from one place on")
        return Table(self.square(choice))

    def minor(self, choice=None):
        """The determinant of the chosen places' table, 1 where none is chosen; without a choice, of the whole."""
        if choice is None:
            return determinant(self.rows())
        check_choice(self, choice)
        return determinant(self.square(choice))

    def minors(self, least=1):
        """The minors of all choices with at least so many places chosen, in order of texts."""
        return [determinant(self.square(choice)) for choice in choices(len(self), least)]
