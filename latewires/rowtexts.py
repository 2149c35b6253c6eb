"""The texts of rows."""

from latewires.errors import BadText
from latewires.numerals import read_integer
from latewires.rows import TURN, row_error


def row_text(row):
    """Return the text of row."""
    if not row:
        return "none"
    return ", ".join([_part_text(part) for part in row])


def read_row(value):
    """Return the row of which value is the text; raise BadText if there is none."""
    row = _row_told(value) if isinstance(value, str) else None
    if row_error(row) is not None:
        raise BadText()
    return row


def _part_text(part):
    if part == TURN:
        return "turn"
    word, ticks = part
    return f"{word} {ticks}"


def _row_told(text):
    """Return a tuple of what the pieces of text tell: no row, if one of them is the text of no part."""
    if text == "none":
        return ()
    return tuple([_part_told(piece) for piece in text.split(", ")])


def _part_told(piece):
    word, blank, ticks = piece.partition(" ")
    if not blank:
        return (word,)
    return (word, read_integer(ticks))
