"""The refusals: each has its class, and all stand straight under SlackError."""


class SlackError(ValueError):
    """Any refusal."""


class NoNumber(SlackError):
    """A top is divided by 0."""

    def __init__(self, top):
        super().__init__("nothing is divided by 0")
        self.top = top


class NoTable(SlackError):
    """Rows make no table: -1 where their number is wrong, else the first wrong row."""

    def __init__(self, place):
        super().__init__("these rows make no table")
        self.place = place


class NoRow(SlackError):
    """A row has another length than the table has places."""


class NoChoice(SlackError):
    """A text or a number is that of no choice."""


class Flat(SlackError):
    """The minor of a choice is 0."""

    def __init__(self, choice):
        super().__init__("the minor of this choice is 0")
        self.choice = choice


class NoSaying(SlackError):
    """A tuple is no saying about the table."""


class Lifted(SlackError):
    """A number beside the diagonal is above 0."""

    def __init__(self, row, column):
        super().__init__("a number beside the diagonal is above 0")
        self.row = row
        self.column = column


class NoCover(SlackError):
    """A number of a cover is not above 0."""


class Dipped(SlackError):
    """The table dips a row below 0."""

    def __init__(self, row):
        super().__init__("the table dips this row below 0")
        # The field is the asker's own, so whoever keeps the handed list may go on changing it.
        self.row = list(row)


class NotOne(SlackError):
    """The minor of a choice is not above 0."""

    def __init__(self, choice):
        super().__init__("the minor of this choice is not above 0")
        self.choice = choice


class NoText(SlackError):
    """A text is not written as what it is read for."""


class NoLine(SlackError):
    """A line has none of the desk's forms."""


class NoName(SlackError):
    """A name stands for nothing, or not for what is wanted."""

    def __init__(self, name):
        super().__init__("this name does not stand for what is wanted")
        self.name = name
