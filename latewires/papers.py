"""Papers: a signal and a tick that show that a row lies not within another one, or is unlike it."""

from latewires.answers import answer
from latewires.bursts import train_beyond
from latewires.kinds import is_plain_integer, is_tuple_of
from latewires.orders import dropped_ahead, filled_ahead, telling_numbers
from latewires.signals import ALWAYS_OFF, ALWAYS_ON, is_on, signal_error
from latewires.stagings import most_dropped
from latewires.walks import form


def beyond(one, other):
    """Return None if one lies within other, otherwise a pair (signal, tick) that shows that it does not."""
    return paper_beyond(form(one), form(other))


def beyond_holds(one, other, value):
    """Return whether value is a pair that shows that one does not lie within other."""
    if not _is_paper(value):
        return False
    return _is_on_behind(one, value) and not _is_on_behind(other, value)


def unlike(one, other):
    """Return None if both rows are alike, otherwise a pair (signal, tick) that shows that they are not."""
    shown = beyond(one, other)
    return beyond(other, one) if shown is None else shown


def unlike_holds(one, other, value):
    """Return whether value is a pair that shows that both rows are not alike."""
    if not _is_paper(value):
        return False
    return _is_on_behind(one, value) != _is_on_behind(other, value)


def paper_beyond(first, second):
    """Return what beyond tells of rows of these forms.

    The signal has no ons and no offs that end on both sides but such with the
    number of a stage: so it keeps what the forms were promised, if anything was.
    """
    if first[0] != second[0]:
        return (ALWAYS_OFF if first[0] else ALWAYS_ON, 0)
    if first[0]:
        # Where other, its turn left away, is on and one off, one is on and other off.
        return _plain_beyond(second, first)
    return _plain_beyond(first, second)


def _is_paper(value):
    return is_tuple_of(value, 2) and signal_error(value[0]) is None and is_plain_integer(value[1])


def _is_on_behind(row, paper):
    signal, tick = paper
    return is_on(answer(row, signal), tick)


def _plain_beyond(first, second):
    """Return what beyond tells of rows of these forms that are not turned."""
    if first[1] < second[1]:
        return ((None, (), 0), first[1])
    if first[2] > second[2]:
        return ((0, (), None), first[2] - 1)
    return _stage_paper(first, second)


def _stage_paper(first, second):
    """Return a pair that shows that the stages of first do not lie on the low side of second's, None if they do."""
    steps, others = first[3], second[3]
    for number in telling_numbers(steps, others):
        fill = filled_ahead(steps, number)
        if fill > filled_ahead(others, number):
            drop = _first_above(others, "drop", number)
            return _train_paper(first, drop, fill) if drop > 0 else ((0, (), fill), second[2])
        drop = dropped_ahead(others, number)
        if drop > dropped_ahead(steps, number):
            return _train_paper(first, drop, _first_above(steps, "fill", number))
    return None


def _first_above(steps, word, bound):
    """Return the number of the first one of steps that has word and a number above bound, 0 if there is none."""
    above = [number for kind, number in steps if kind == word and number > bound]
    return above[0] if above else 0


def _train_paper(shape, on, off):
    """Return a pair with so many ons, offs between, that what they are filled to is not dropped by shape's stages.

    An off of 0 stands for none to be filled: on is above all drops then.
    """
    return ((None, (train_beyond(on, off, most_dropped(shape[3])),), None), shape[1])
