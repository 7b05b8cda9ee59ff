"""Choices of places: texts with 1 where a place is chosen, 0 where it isn't."""

from eitherslack.errors import NoChoice

MOST_PLACES = 5


def choices(many, least=0):
    """All choices of so many places with at least so many chosen, in order of texts."""
    texts = [""]
    for place in range(many):
        texts = [text + sign for text in texts for sign in "01"]
    return [text for text in texts if text.count("1") >= least]


def chosen_places(choice):
    """The numbers of the chosen places, rising."""
    return [place for place, sign in enumerate(choice) if sign == "1"]


def choice_number(choice):
    """The place of a choice among all of as many places, in order of texts."""
    # The length goes first: there would be far too many choices of a long text's places.
    if not 1 <= len(choice) <= MOST_PLACES:
        raise NoChoice("a choice has from 1 to 5 signs")
    texts = choices(len(choice))
    if choice not in texts:
        raise NoChoice("a choice has no sign but 0 and 1")
    return texts.index(choice)


def choice_at(number, many):
    """The choice of so many places that has this number."""
    texts = choices(many)
    if not 0 <= number < len(texts):
        raise NoChoice("no choice of so many places has this number")
    return texts[number]
