"""Presses and their gaps: whether presses fit or answer a start, and the answers."""

from eitherslack.checks import check_few, check_not_flat, check_row
from eitherslack.choices import choices, chosen_places
from eitherslack.elimination import solutions
from eitherslack.rows import NOUGHT, all_above, negative, none_below, put_to, spread


def gaps(table, start, presses):
    """The start and the table times the presses, put together place by place."""
    check_row(table, start)
    check_row(table, presses)
    return put_to(start, table.times(presses))


def fits(table, start, presses):
    """Whether the presses and the gaps are none below 0."""
    row = gaps(table, start, presses)
    return none_below(presses) and none_below(row)


def is_answer(table, start, presses):
    """Whether the presses fit and at each place the press or the gap is 0."""
    row = gaps(table, start, presses)
    one_is_nought = [press == NOUGHT or gap == NOUGHT for press, gap in zip(presses, row)]
    return none_below(presses) and none_below(row) and all(one_is_nought)


def pressed(table, starts, choice):
    """For each start the presses that are 0 where it isn't chosen, with gaps that are 0 where it is.

    The choice's minor is not 0. Some of the presses, or the other gaps, may be below 0.
    """
    places = chosen_places(choice)
    wanted = [[negative(start[place]) for start in starts] for place in places]
    found = solutions(table.square(choice), wanted)
    return [spread(choice, [row[number] for row in found]) for number in range(len(starts))]


def answer_by(table, start, choice):
    """The answer with presses 0 where it isn't chosen and gaps 0 where it is; None where there is none."""
    check_row(table, start)
    check_not_flat(table, choice)
    presses = pressed(table, [start], choice)[0]
    if none_below(presses) and none_below(gaps(table, start, presses)):
        return presses
    return None


def answers_by_text(table, start):
    """All answers of a few table, in order of the texts that have 1 where the press is above 0."""
    found = []
    for choice in choices(len(table)):
        presses = pressed(table, [start], choice)[0]
        # A chosen press of 0 is left to the choice without it: so each answer is found once.
        if all_above([presses[place] for place in chosen_places(choice)]):
            if none_below(gaps(table, start, presses)):
                found.append(presses)
    return found


def all_answers(table, start, by=None, falling=False):
    """All answers of a few table, in order of texts or of the numbers that by tells of them."""
    check_row(table, start)
    check_few(table)
    found = answers_by_text(table, start)
    if by is None:
        return found[::-1] if falling else found
    numbers = [by(list(presses)) for presses in found]
    if falling:
        # Not sorted and turned about: answers with one number stay in rising order of their texts.
        numbers = [-number for number in numbers]
    order = sorted(list(range(len(found))), key=lambda place: numbers[place])
    return [found[place] for place in order]
