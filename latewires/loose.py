"""Loose rows: rows of timers of which only bounds are known."""

from latewires.bounds import MAX_PARTS, MAX_TICKS
from latewires.kinds import is_between, is_tuple_of, is_tuple_up_to
from latewires.orders import within
from latewires.papers import beyond, beyond_holds
from latewires.rows import TURN, row_error


def loose_error(value):
    """Return None for a loose row, otherwise what is wrong with value."""
    if not is_tuple_up_to(value, MAX_PARTS):
        return "form"
    for place, item in enumerate(value):
        if not _is_loose_part(item):
            return ("part", place)
    return None


def most_on(loose):
    """Return the choice of loose whose answers are on wherever those of any choice are."""
    return _outermost(loose, "off")


def least_on(loose):
    """Return the choice of loose whose answers are off wherever those of any choice are."""
    return _outermost(loose, "on")


def sure_within(one, other):
    """Return whether each choice of one lies within each choice of other."""
    return within(most_on(one), least_on(other))


def sure_beyond(one, other):
    """Return None if sure_within is so, otherwise a quadruple (first, second, signal, tick) that shows why not."""
    first, second = most_on(one), least_on(other)
    paper = beyond(first, second)
    return None if paper is None else (first, second) + paper


def sure_beyond_holds(one, other, value):
    """Return whether value is a quadruple that shows that not each choice of one lies within each of other."""
    if not is_tuple_of(value, 4):
        return False
    first, second = value[:2]
    if not _is_choice(one, first) or not _is_choice(other, second):
        return False
    return beyond_holds(first, second, value[2:])


def always_alike(loose):
    """Return whether each two choices of loose are alike."""
    return most_on(loose) == least_on(loose)


def _is_loose_part(value):
    if value == TURN:
        return True
    if is_tuple_of(value, 2):
        return value[0] == "delay" and is_between(value[1], 0, MAX_TICKS)
    if not is_tuple_of(value, 3) or value[0] not in ("on", "off"):
        return False
    low, high = value[1:]
    return is_between(high, 0, MAX_TICKS) and is_between(low, 0, high)


def _outermost(loose, longest):
    """Return the choice in which, but for turns, timers with the word longest have their high, others their low."""
    parts = []
    word = longest
    # A turn exchanges on and off for what stands ahead of it.
    for part in loose[::-1]:
        if part == TURN:
            word = "on" if word == "off" else "off"
        parts.append(_chosen(part, word))
    return tuple(parts[::-1])


def _chosen(part, longest):
    """Return the part that has its high, if it is a timer with the word longest, its low if it is another timer."""
    if len(part) < 3:
        return part
    word, low, high = part
    return (word, high if word == longest else low)


def _is_choice(loose, value):
    """Return whether value is a choice of loose."""
    if row_error(value) is not None or len(value) != len(loose):
        return False
    return all([_is_chosen(part, item) for part, item in zip(loose, value)])


def _is_chosen(part, item):
    """Return whether item, a part of a row, can stand for the loose part part."""
    if len(part) < 3:
        return item == part
    word, low, high = part
    return item[0] == word and low <= item[1] <= high
