"""The answers along a line of starts, in straight pieces, where each start has exactly one answer."""

from eitherslack.answers import gaps, pressed
from eitherslack.checks import check_row
from eitherslack.choices import choices
from eitherslack.errors import NotOne
from eitherslack.numbers import below, lowest, product, total
from eitherslack.rows import NOUGHT, negative, put_to


def check_one(table):
    """Refuse a table with a minor that is not above 0."""
    for choice, minor in zip(choices(len(table)), table.minors(0)):
        if minor[0] <= 0:
            raise NotOne(choice)


def quotient(one, other):
    """The one fraction divided by the other, which is not 0."""
    return product(one, lowest(other[1], other[0]))


def moved(row, rate, moment):
    """The row and the rate times the moment."""
    return put_to(row, [product(growth, moment) for growth in rate])


def never_holds(row, rate):
    """Whether from moment 0 on a number of a moved row is always below 0."""
    return any([number[0] < 0 and growth[0] <= 0 for number, growth in zip(row, rate)])


def span(row, rate):
    """The first moment from 0 on, and the last one or None, at which no number of a moved row is below 0.

    None where there is no such moment.
    """
    if never_holds(row, rate):
        return None
    begin, end = NOUGHT, None
    for number, growth in zip(row, rate):
        if number[0] < 0:
            moment = quotient(negative(number), growth)
            if below(begin, moment):
                begin = moment
        elif growth[0] < 0:
            moment = quotient(negative(number), growth)
            if end is None or below(moment, end):
                end = moment
    if end is not None and below(end, begin):
        return None
    return begin, end


def choice_spans(table, start, step):
    """For each choice by which there are answers for a while: (begin, end, presses at 0, rate)."""
    found = []
    for choice in choices(len(table)):
        presses, rate = pressed(table, [start, step], choice)
        # Where the presses alone never hold, the gaps need not be worked out.
        if never_holds(presses, rate):
            continue
        bounds = span(presses + gaps(table, start, presses), rate + gaps(table, step, rate))
        if bounds is not None:
            found.append((bounds[0], bounds[1], presses, rate))
    return found


def span_behind(spans, moment):
    """A span that goes on behind the moment."""
    for begin, end, presses, rate in spans:
        if not below(moment, begin) and (end is None or below(moment, end)):
            return end, presses, rate
    return None


def along(table, start, step):
    """The pieces (begin, presses, rate) of the answers of the start with a moment times the step put to it."""
    check_row(table, start)
    check_row(table, step)
    check_one(table)
    spans = choice_spans(table, start, step)
    pieces = []
    moment = NOUGHT
    # Each start has an answer by some choice, and its answer is the only one: so some span goes on behind each
    # moment, and all that do have one rate there. A span ends where a press or a gap of it would go below 0, so the
    # next one has another rate.
    while moment is not None:
        end, presses, rate = span_behind(spans, moment)
        pieces.append((moment, moved(presses, rate, moment), rate))
        moment = end
    return pieces


def answer_at(pieces, moment):
    """The answer at a moment, from the pieces that along tells."""
    begun = [piece for piece in pieces if not below(moment, piece[0])]
    begin, presses, rate = begun[-1]
    return moved(presses, rate, total([moment, negative(begin)]))
