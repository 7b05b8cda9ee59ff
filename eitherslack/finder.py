"""Which of the two is so of a saying, with a paper for it or a paper against it."""

from eitherslack.alternatives import lift_or_hold, met_or_barred
from eitherslack.answers import pressed
from eitherslack.choices import choices, chosen_places
from eitherslack.judge import check_saying
from eitherslack.rows import NOUGHT, ONE, above_part, all_above, negative, put_to, spread, whole_row
from eitherslack.squares import squares_or_dip


def first_grown(table, wrong):
    """Of some choices one with the fewest places, and a row that stays 0 at these but for the last one.

    Of the table times the row it is said, and the row is 0 at the places that aren't chosen. At the last place the
    row is above 0, and the table times the row has the sign of the choice's minor, as no lesser choice is wrong.
    """
    choice = min(wrong, key=lambda text: text.count("1"))
    place = choice.rfind("1")
    lesser = choice[:place] + "0" + choice[place + 1:]
    row = pressed(table, [table.turned().rows()[place]], lesser)[0]
    row[place] = ONE
    return whole_row(row)


def two_unlike(table, row):
    """A start and two unlike answers whose presses are apart by the row.

    At each place the row or the table times the row is 0, or they are of unlike signs.
    """
    presses = above_part(row)
    others = above_part([negative(number) for number in row])
    lifts = table.times(presses)
    start = put_to(above_part(table.times(row)), [negative(lift) for lift in lifts])
    return start, presses, others


def settled_one(table, saying):
    """("minors", numbers), or ("two", start, presses, others)."""
    numbers = table.minors()
    if all_above(numbers):
        return True, ("minors", numbers)
    wrong = [choice for choice, minor in zip(choices(len(table), 1), numbers) if minor[0] <= 0]
    start, presses, others = two_unlike(table, first_grown(table, wrong))
    return False, ("two", start, presses, others)


def settled_few(table, saying):
    """("minors", numbers), or ("between", start, presses, others)."""
    numbers = table.minors()
    wrong = [choice for choice, minor in zip(choices(len(table), 1), numbers) if minor == NOUGHT]
    if not wrong:
        return True, ("minors", numbers)
    start, presses, others = two_unlike(table, first_grown(table, wrong))
    return False, ("between", start, presses, others)


def settled_alone(table, saying):
    """("weights", rows), or ("beside", start, presses)."""
    rows = []
    for choice in choices(len(table), 1):
        numbers, holding = lift_or_hold(table.cut(choice).turned())
        if numbers is None:
            presses = spread(choice, holding)
            start = above_part([negative(number) for number in table.times(presses)])
            return False, ("beside", start, presses)
        rows.append(spread(choice, numbers))
    return True, ("weights", rows)


def settled_wide(table, saying):
    """("lift", presses), or ("hold", weights)."""
    presses, weights = lift_or_hold(table)
    if presses is None:
        return False, ("hold", weights)
    return True, ("lift", presses)


def settled_level(table, saying):
    """("squares", parts), or ("dip", row)."""
    parts, row = squares_or_dip(table)
    if parts is None:
        return False, ("dip", row)
    return True, ("squares", parts)


def settled_answered(table, saying):
    """("answer", presses), or ("bars", rows)."""
    columns = table.turned().rows()
    target = [negative(number) for number in saying[1]]
    rows = []
    for choice in choices(len(table)):
        chosen = [columns[place] for place in chosen_places(choice)]
        numbers, weights = met_or_barred(chosen, target, choice)
        if weights is None:
            return True, ("answer", spread(choice, numbers))
        rows.append(weights)
    return False, ("bars", rows)


FINDERS = {
    "one": settled_one,
    "few": settled_few,
    "alone": settled_alone,
    "wide": settled_wide,
    "level": settled_level,
    "answered": settled_answered,
}


def settled(table, saying):
    """True and a paper for the saying, or False and a paper against it."""
    check_saying(table, saying)
    finder = FINDERS[saying[0]]
    return finder(table, saying)
