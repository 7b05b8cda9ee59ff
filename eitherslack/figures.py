"""Fractions and rows in figures."""

# Python writes no number of more than some 4300 figures, so greater ones are written part by part.
PART_FIGURES = 64
PART = 10 ** 64


def whole_text(number):
    """A whole number from 0 on in figures."""
    parts = []
    while number >= PART:
        number, rest = divmod(number, PART)
        parts.append(str(rest).zfill(PART_FIGURES))
    parts.append(str(number))
    return "".join(parts[::-1])


def fraction_text(number):
    """A fraction in figures: - ahead where it is below 0, / and its bottom where that is above 1."""
    top, bottom = number
    text = whole_text(abs(top))
    if top < 0:
        text = "-" + text
    if bottom > 1:
        text = text + "/" + whole_text(bottom)
    return text


def written_row(row):
    """A row's fractions with a blank between two."""
    return " ".join([fraction_text(number) for number in row])
