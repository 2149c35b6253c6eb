"""Rows: tuples of on-delays, off-delays, delays and turns."""

from latewires.bounds import MAX_PARTS, MAX_TICKS
from latewires.kinds import is_between, is_tuple_of, is_tuple_up_to

TURN = ("turn",)


def row_error(value):
    """Return None for a row, otherwise what is wrong with value."""
    if not is_tuple_up_to(value, MAX_PARTS):
        return "form"
    for place, item in enumerate(value):
        if not _is_part(item):
            return ("part", place)
    return None


def _is_part(value):
    if value == TURN:
        return True
    if not is_tuple_of(value, 2):
        return False
    word, ticks = value
    return word in ("on", "off", "delay") and is_between(ticks, 0, MAX_TICKS)
