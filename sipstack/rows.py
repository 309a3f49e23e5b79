"""Rows: lists of bytes, laid over one another, written as a str and read back."""

from sipstack.errors import NoRow

FIGURES = "0123456789abcdef"


def laid(row, place, data):
    """The row with data laid over it from the place on, always a new list."""
    told = list(row)
    # Data without bytes lengthens nothing, also where the place lies behind the end.
    if not data:
        return told
    told.extend([0] * (place - len(told)))
    told[place:place + len(data)] = data
    return told


def row_text(row):
    """The row as a str, two figures of sixteen for each byte."""
    return "".join([f"{byte:02x}" for byte in row])


def read_row(text):
    """The row of which row_text tells this str; refused with NoRow where there is none."""
    if len(text) % 2 != 0:
        raise NoRow()
    return [16 * figure_worth(text[at]) + figure_worth(text[at + 1]) for at in range(0, len(text), 2)]


def figure_worth(figure):
    # Looked up and not read by int, which also takes great letters, blanks, "_" and figures of other scripts.
    worth = FIGURES.find(figure)
    if worth < 0:
        raise NoRow()
    return worth
