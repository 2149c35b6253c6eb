"""Which values are forms of rows."""

from latewires.kinds import is_plain_integer, is_tuple_of
from latewires.stagings import least_lateness, most_dropped, most_filled


def form_error(value):
    """Return None for the form of some row, otherwise what is wrong with value."""
    if not _has_form(value):
        return "form"
    _, late_on, late_off, steps = value
    place = _wrong_place(steps)
    if place is not None:
        return ("stage", place)
    return None if _are_fit(late_on, late_off, steps) else "late"


def _is_from(value, low):
    return is_plain_integer(value) and value >= low


def _has_form(value):
    if not is_tuple_of(value, 4):
        return False
    is_turned, late_on, late_off, steps = value
    if not isinstance(is_turned, bool) or not isinstance(steps, tuple):
        return False
    return _is_from(late_on, 0) and _is_from(late_off, 0)


def _is_stage(value):
    return is_tuple_of(value, 2) and value[0] in ("drop", "fill") and _is_from(value[1], 1)


def _wrong_place(items):
    """Return the place of the first one of items that is no stage, or does not fit those ahead; None if all do."""
    most = {"drop": 0, "fill": 0}
    ahead = None
    for place, item in enumerate(items):
        if not _is_stage(item):
            return place
        word, number = item
        if word == ahead or number <= most[word]:
            return place
        most[word] = number
        ahead = word
    return None


def _are_fit(late_on, late_off, steps):
    """Return whether some row has these stages and these latenesses."""
    height = late_on - late_off
    # Without stages nothing is dropped or filled, so the height must be 0.
    if height > most_dropped(steps) or height < -most_filled(steps):
        return False
    return late_on >= least_lateness(steps, height)
