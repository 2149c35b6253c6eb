"""What rows do to signals that promise long enough runs, and which rows undo which."""

from latewires.bounds import MAX_TICKS
from latewires.changes import turned
from latewires.orders import lies_within
from latewires.papers import paper_beyond
from latewires.rows import TURN
from latewires.walks import form_past


def keeps(signal, ons, offs):
    """Return whether signal's ons have so many ticks at least, and its offs, too; endless ones do not count."""
    return _have_ticks(signal, ons) and _have_ticks(turned(signal), offs)


def form_for(row, ons, offs):
    """Return the form of row but for stages that find nothing in a signal that keeps the promise."""
    return form_past(row, ons - 1, offs - 1)


def alike_for(one, other, ons, offs):
    """Return whether both rows answer the same to each signal that keeps the promise."""
    return form_for(one, ons, offs) == form_for(other, ons, offs)


def within_for(one, other, ons, offs):
    """Return whether, for each signal that keeps the promise, one's answer is on at no tick at which other's is off."""
    return lies_within(form_for(one, ons, offs), form_for(other, ons, offs))


def beyond_for(one, other, ons, offs):
    """Return None if within_for is so, otherwise a pair (signal, tick) that shows why not, and keeps the promise."""
    return paper_beyond(form_for(one, ons, offs), form_for(other, ons, offs))


def undone_by(row, ons, offs):
    """Return a pair of a row that leads row's answers back to the signals, and of how much later, None if none does."""
    is_turned, late_on, late_off, steps = form_for(row, ons, offs)
    if steps:
        return None
    # What is late by less is made as late as the other one.
    word = "on" if late_on < late_off else "off"
    turns = (TURN,) if is_turned else ()
    return (turns + _timers(word, abs(late_on - late_off)), max(late_on, late_off))


def _have_ticks(signal, ticks):
    return all([burst[1] >= ticks for burst in signal[1]])


def _timers(word, ticks):
    """Return the tuple of timers with word that have so many ticks together, as few as can be."""
    rest = ticks % MAX_TICKS
    timers = ((word, MAX_TICKS),) * (ticks // MAX_TICKS)
    return timers + ((word, rest),) if rest > 0 else timers
