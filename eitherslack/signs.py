"""The signs of answers, which come to one number at every clean start."""

from eitherslack.answers import answers_by_text, gaps
from eitherslack.checks import check_few, check_row
from eitherslack.rows import NOUGHT


def are_clean(table, start, answers):
    """Whether in each of some answers at each place the press or the gap is above 0."""
    for presses in answers:
        if (NOUGHT, NOUGHT) in list(zip(presses, gaps(table, start, presses))):
            return False
    return True


def clean(table, start):
    """Whether a start of a few table is clean."""
    check_row(table, start)
    check_few(table)
    return are_clean(table, start, answers_by_text(table, start))


def power_start(table, base):
    """The start of the powers of a base, from 1 on."""
    start = []
    power = 1
    for place in range(len(table)):
        start.append((power, 1))
        power = power * base
    return start


def sign_of(table, presses):
    """1 where the minor of the places whose press is above 0 is above 0, else -1."""
    choice = "".join(["1" if top > 0 else "0" for top, bottom in presses])
    return 1 if table.minor(choice)[0] > 0 else -1


def turning(table):
    """The number to which the signs of the answers of a few table come at every clean start."""
    check_few(table)
    base = 1
    answers = answers_by_text(table, power_start(table, base))
    # For each place and choice the press or the gap is a sum of powers of the base, of which few bases make 0:
    # so a base comes whose start is clean.
    while not are_clean(table, power_start(table, base), answers):
        base += 1
        answers = answers_by_text(table, power_start(table, base))
    return sum([sign_of(table, presses) for presses in answers])
