"""What refuses rows and choices that are handed in for a table."""

from eitherslack.choices import choices
from eitherslack.errors import Flat, NoChoice, NoRow
from eitherslack.rows import NOUGHT


def check_row(table, row):
    """Refuse a row of another length than the table has places."""
    if len(row) != len(table):
        raise NoRow("a row has as many numbers as the table has places")


def check_choice(table, choice):
    """Refuse a text that is no choice of the table's places."""
    if choice not in choices(len(table)):
        raise NoChoice("a choice has a sign 0 or 1 for each place of the table")


def check_not_flat(table, choice):
    """Refuse a text that is no choice of the table's places, then a choice whose minor is 0."""
    if table.minor(choice) == NOUGHT:
        raise Flat(choice)


def check_few(table):
    """Refuse a table with a minor that is 0."""
    for choice, minor in zip(choices(len(table)), table.minors(0)):
        if minor == NOUGHT:
            raise Flat(choice)
