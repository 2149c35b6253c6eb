"""Rows told back by what they answer."""

from latewires.bursts import train_beyond
from latewires.changes import turned
from latewires.signals import ALWAYS_OFF, ALWAYS_ON


def told_back(work):
    """Return the form of the row as which work answers to signals."""
    is_turned = work(ALWAYS_OFF) == ALWAYS_ON

    def plain(signal):
        return turned(work(signal)) if is_turned else work(signal)

    def contrary(signal):
        # With on and off exchanged ahead and behind, what the row fills is dropped.
        return turned(plain(turned(signal)))

    late_on = _lateness(plain)
    late_off = _lateness(contrary)
    most = {"drop": _most_lost(plain, late_on), "fill": _most_lost(contrary, late_off)}
    return (is_turned, late_on, late_off, _stages_told(plain, contrary, most))


def _lateness(asked):
    """Return how much later what begins at 0 and never ends begins behind asked."""
    return asked((None, (), 0))[2]


def _most_lost(asked, lateness):
    """Return of how many ticks an on is lost behind asked at most: no more than an on begins later by."""
    return _greatest(0, lateness, lambda ticks: asked(_train(ticks, 0, 0)) == ALWAYS_OFF)


def _stages_told(plain, contrary, most):
    """Return the tuple of the stages, most telling the number of the last one of each word."""
    made = []
    now = {"drop": 0, "fill": 0}
    while now != most:
        for word, other, asked in (("fill", "drop", plain), ("drop", "fill", contrary)):
            number = most[word]
            if now[other] < most[other]:
                number = _most_ahead(asked, now[other] + 1, most[other], now[word], number)
            if number > now[word]:
                now[word] = number
                made.append((word, number))
    return tuple(made)


def _most_ahead(asked, on, lost, low, high):
    """Return which offs, from low to high, are filled at most behind asked ahead of dropping ons of on ticks.

    Ons of at most lost ticks are dropped in the end: more, joined to one, are left.
    """
    return _greatest(low, high, lambda off: asked(_train(on, off, lost)) != ALWAYS_OFF)


def _train(on, off, ticks):
    return (None, (train_beyond(on, off, ticks),), None)


def _greatest(low, high, fits):
    """Return the greatest number from low to high that fits; low is not asked, and what is below one that fits does."""
    while low < high:
        middle = (low + high + 1) // 2
        if fits(middle):
            low = middle
        else:
            high = middle - 1
    return low
