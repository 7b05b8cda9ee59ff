"""Tables, starts and presses with press and gap exchanged at chosen places."""

from eitherslack.answers import gaps, pressed
from eitherslack.checks import check_not_flat, check_row
from eitherslack.rows import ONE, put_together, single
from eitherslack.tables import Table


def exchanged_columns(table, choice):
    """The columns of the exchanged table."""
    starts = []
    for place, column in enumerate(table.turned().rows()):
        # What goes with a 1 at this place alone: a gap of 1 is one of 0 from a start of -1,
        # a press of 1 leaves the place's column as the start of the chosen ones.
        starts.append(single(len(table), place, (-1, 1)) if choice[place] == "1" else column)
    columns = []
    for place, found in enumerate(pressed(table, starts, choice)):
        presses = put_together(choice, found, single(len(table), place, ONE))
        columns.append(put_together(choice, presses, table.times(presses)))
    return columns


def exchanged(table, choice):
    """The table with press and gap exchanged at each chosen place."""
    check_not_flat(table, choice)
    return Table(exchanged_columns(table, choice)).turned()


def exchanged_start(table, start, choice):
    """The start with which the exchanged table does the same as the table with the start."""
    check_row(table, start)
    check_not_flat(table, choice)
    presses = pressed(table, [start], choice)[0]
    return put_together(choice, presses, gaps(table, start, presses))


def exchanged_presses(table, start, choice, presses):
    """The row that has the gaps at the chosen places and the presses at the others."""
    row = gaps(table, start, presses)
    check_not_flat(table, choice)
    return put_together(choice, row, presses)
