"""The judge of papers for and against sayings about a table."""

from eitherslack.answers import gaps, is_answer
from eitherslack.choices import choices
from eitherslack.errors import NoSaying
from eitherslack.numbers import product, total
from eitherslack.rows import NOUGHT, all_above, all_nought, none_above, none_below, sum_of_products

PLAIN_SAYINGS = (("one",), ("few",), ("alone",), ("wide",), ("level",))


def check_saying(table, saying):
    """Refuse a tuple that is no saying of the table."""
    if saying in PLAIN_SAYINGS:
        return
    if len(saying) != 2 or saying[0] != "answered" or len(saying[1]) != len(table):
        raise NoSaying("a saying is one of six words, answered with a start")


def are_rows(table, rows):
    """Whether each of some lists is as long as the table has places."""
    return all([len(row) == len(table) for row in rows])


def column_sums(table, row):
    """For each place the sum of the row's numbers, each times the table's number in its row and this column."""
    return table.turned().times(row)


def where(choice, sign, row):
    """The row's numbers at the places where the choice has the sign."""
    return [number for mark, number in zip(choice, row) if mark == sign]


def minors_above(table, saying, paper):
    """("minors", numbers) for "one"."""
    numbers = paper[1]
    return all_above(numbers) and numbers == table.minors()


def minors_not_nought(table, saying, paper):
    """("minors", numbers) for "few"."""
    numbers = paper[1]
    return NOUGHT not in numbers and numbers == table.minors()


def two_answers(table, saying, paper):
    """("two", start, presses, others) against "one"."""
    start, presses, others = paper[1:]
    if not are_rows(table, [start, presses, others]) or presses == others:
        return False
    return is_answer(table, start, presses) and is_answer(table, start, others)


def answers_between(table, saying, paper):
    """("between", start, presses, others) against "few"."""
    if not two_answers(table, saying, paper):
        return False
    start, presses, others = paper[1:]
    presses_pairs = list(zip(presses, others))
    gaps_pairs = list(zip(gaps(table, start, presses), gaps(table, start, others)))
    return all([all_nought(one) or all_nought(other) for one, other in zip(presses_pairs, gaps_pairs)])


def is_weight(table, choice, row):
    """Whether a row is what ("weights", rows) has for the choice."""
    signs_hold = none_below(row) and all_nought(where(choice, "0", row))
    return signs_hold and all_above(where(choice, "1", column_sums(table, row)))


def weights_hold(table, saying, paper):
    """("weights", rows) for "alone"."""
    rows = paper[1]
    texts = choices(len(table), 1)
    if len(rows) != len(texts) or not are_rows(table, rows):
        return False
    return all([is_weight(table, choice, row) for choice, row in zip(texts, rows)])


def answer_beside(table, saying, paper):
    """("beside", start, presses) against "alone"."""
    start, presses = paper[1:]
    if not are_rows(table, [start, presses]) or all_nought(presses):
        return False
    return none_below(start) and is_answer(table, start, presses)


def lift_holds(table, saying, paper):
    """("lift", presses) for "wide"."""
    presses = paper[1]
    return are_rows(table, [presses]) and none_below(presses) and all_above(table.times(presses))


def hold_holds(table, saying, paper):
    """("hold", weights) against "wide"."""
    weights = paper[1]
    if not are_rows(table, [weights]) or all_nought(weights):
        return False
    return none_below(weights) and none_above(column_sums(table, weights))


def squares_come(rows, parts, place, other):
    """Whether the table's two numbers at two places come to twice the sum of the parts' products."""
    products = [product(weight, product(row[place], row[other])) for weight, row in parts]
    return total([rows[place][other], rows[other][place]]) == product((2, 1), total(products))


def squares_hold(table, saying, paper):
    """("squares", parts) for "level"."""
    parts = paper[1]
    if not are_rows(table, [row for weight, row in parts]) or not all_above([weight for weight, row in parts]):
        return False
    rows = table.rows()
    for place in range(len(table)):
        for other in range(place + 1):
            if not squares_come(rows, parts, place, other):
                return False
    return True


def dip_holds(table, saying, paper):
    """("dip", row) against "level"."""
    row = paper[1]
    return are_rows(table, [row]) and sum_of_products(row, table.times(row))[0] < 0


def answer_holds(table, saying, paper):
    """("answer", presses) for "answered"."""
    presses = paper[1]
    return are_rows(table, [presses]) and is_answer(table, saying[1], presses)


def is_bar(table, start, choice, row):
    """Whether a row is what ("bars", rows) has for the choice."""
    if not none_below(where(choice, "0", row)) or sum_of_products(row, start)[0] >= 0:
        return False
    return none_above(where(choice, "1", column_sums(table, row)))


def bars_hold(table, saying, paper):
    """("bars", rows) against "answered"."""
    rows = paper[1]
    texts = choices(len(table))
    if len(rows) != len(texts) or not are_rows(table, rows):
        return False
    return all([is_bar(table, saying[1], choice, row) for choice, row in zip(texts, rows)])


# By the saying's word, the truth and the paper's word: what checks the paper.
CHECKS = {
    ("one", True, "minors"): minors_above,
    ("one", False, "two"): two_answers,
    ("few", True, "minors"): minors_not_nought,
    ("few", False, "between"): answers_between,
    ("alone", True, "weights"): weights_hold,
    ("alone", False, "beside"): answer_beside,
    ("wide", True, "lift"): lift_holds,
    ("wide", False, "hold"): hold_holds,
    ("level", True, "squares"): squares_hold,
    ("level", False, "dip"): dip_holds,
    ("answered", True, "answer"): answer_holds,
    ("answered", False, "bars"): bars_hold,
}


def judge(table, saying, paper, truth=True):
    """Whether the paper is one for the saying, or, where truth is False, one against it."""
    check_saying(table, saying)
    key = (saying[0], truth, paper[0])
    if key not in CHECKS:
        return False
    check = CHECKS[key]
    return check(table, saying, paper)
