"""The desk: it keeps tables and rows by names, and answers lines with texts."""

from eitherslack.answers import all_answers, gaps
from eitherslack.errors import NoName
from eitherslack.exchanges import exchanged
from eitherslack.figures import fraction_text
from eitherslack.finder import settled
from eitherslack.judge import judge
from eitherslack.least import least_answer
from eitherslack.lines import along
from eitherslack.orders import read_order
from eitherslack.signs import turning
from eitherslack.tables import Table
from eitherslack.texts import paper_text, row_text
from eitherslack.ways import level_answer, way

DONE = "ok"
NOTHING = "none"


def keep(desk, things):
    """table NAME = TABLE and row NAME = ROW"""
    name, kept_thing = things
    desk.kept[name] = kept_thing
    return DONE


def drop(desk, things):
    """drop NAME"""
    del desk.kept[things[0]]
    return DONE


def show(desk, things):
    """show NAME"""
    kept_thing = desk.kept[things[0]]
    return str(kept_thing) if isinstance(kept_thing, Table) else row_text(kept_thing)


def tell_names(desk, things):
    """names"""
    return " ".join(sorted(list(desk.kept))) or NOTHING


def turn(desk, things):
    """turn NAME NAME"""
    name, table = things
    desk.kept[name] = table.turned()
    return DONE


def exchange(desk, things):
    """exchange NAME NAME CHOICE"""
    name, table, choice = things
    desk.kept[name] = exchanged(table, choice)
    return DONE


def tell_minor(desk, things):
    """minor NAME CHOICE"""
    table, choice = things
    return fraction_text(table.minor(choice))


def tell_gaps(desk, things):
    """gaps NAME NAME NAME"""
    table, start, presses = things
    return row_text(gaps(table, start, presses))


def tell_answers(desk, things):
    """answers NAME NAME"""
    table, start = things
    return "; ".join([row_text(presses) for presses in all_answers(table, start)]) or NOTHING


def tell_turning(desk, things):
    """turning NAME"""
    return str(turning(things[0]))


def truth_text(truth):
    """yes or no"""
    return "yes" if truth else "no"


def ask(desk, things):
    """ask NAME SAYING"""
    table, saying = things
    return truth_text(settled(table, saying)[0])


def tell_why(desk, things):
    """why NAME SAYING"""
    table, saying = things
    truth, paper = settled(table, saying)
    return truth_text(truth) + " " + paper_text(paper)


def tell_judged(desk, things):
    """judge NAME TRUTH SAYING: PAPER"""
    table, truth, saying, paper = things
    return "right" if judge(table, saying, paper, truth) else "wrong"


def tell_least(desk, things):
    """least NAME NAME"""
    table, start = things
    paper = least_answer(table, start)
    return row_text(paper[1]) if paper[0] == "least" else NOTHING


def tell_way(desk, things):
    """way NAME NAME"""
    table, start = things
    found = way(table, start)
    presses = found.answer()
    if presses is None:
        return "ray " + row_text(found.ray()[1])
    return "answer " + row_text(presses)


def tell_level(desk, things):
    """level NAME NAME"""
    table, start = things
    word, row = level_answer(table, start)
    return row_text(row) if word == "answer" else NOTHING


def piece_text(piece):
    """A piece of a line of starts."""
    begin, presses, rate = piece
    return fraction_text(begin) + ": " + row_text(presses) + " by " + row_text(rate)


def tell_along(desk, things):
    """along NAME NAME NAME"""
    table, start, step = things
    return "; ".join([piece_text(piece) for piece in along(table, start, step)])


ACTIONS = {
    "table": keep,
    "row": keep,
    "drop": drop,
    "show": show,
    "names": tell_names,
    "turn": turn,
    "exchange": exchange,
    "minor": tell_minor,
    "gaps": tell_gaps,
    "answers": tell_answers,
    "turning": tell_turning,
    "ask": ask,
    "why": tell_why,
    "judge": tell_judged,
    "least": tell_least,
    "way": tell_way,
    "level": tell_level,
    "along": tell_along,
}


def found_thing(desk, kind, thing):
    """What a thing of a line stands for; a new name, and a name of either, stands for itself."""
    if kind in ("new", "told"):
        return thing
    if thing not in desk.kept:
        raise NoName(thing)
    if kind == "either":
        return thing
    kept_thing = desk.kept[thing]
    if isinstance(kept_thing, Table) != (kind == "table"):
        raise NoName(thing)
    return ("answered", kept_thing) if kind == "answered" else kept_thing


class Desk:
    """Tables and rows by names; at first none."""

    def __init__(self):
        self.kept = {}

    def tell(self, line):
        """Do what the line says, and answer it with a text."""
        word, things = read_order(line)
        action = ACTIONS[word]
        return action(self, [found_thing(self, kind, thing) for kind, thing in things])
