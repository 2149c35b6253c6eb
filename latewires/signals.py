"""Signals: triples (until, bursts, since), each signal told in one way."""

from latewires.bounds import MAX_BURSTS, MAX_NUMBER
from latewires.bursts import burst_end, burst_ons_below, takes_on
from latewires.kinds import is_between, is_tuple_of, is_tuple_up_to

ALWAYS_ON = (0, (), 0)
ALWAYS_OFF = (None, (), None)


def signal_error(value):
    """Return None for a signal within the bounds, otherwise what is wrong with value."""
    if not _has_form(value):
        return "form"
    return _burst_error(value) or _order_error(value) or _joined_error(value)


def is_on(signal, tick):
    """Return whether signal is on at tick."""
    return on_ticks(signal, tick, tick) == 1


def on_ticks(signal, low, high):
    """Return at how many ticks from low to high, these two too, signal is on."""
    if high < low:
        return 0
    until, bursts, since = signal
    behind = high + 1
    many = 0
    if until is not None:
        many += max(0, min(behind, until) - low)
    for burst in bursts:
        many += burst_ons_below(burst, behind) - burst_ons_below(burst, low)
    if since is not None:
        many += max(0, behind - max(low, since))
    return many


def _is_number(value):
    return is_between(value, -MAX_NUMBER, MAX_NUMBER)


def _has_form(value):
    if not is_tuple_of(value, 3):
        return False
    until, bursts, since = value
    if until is not None and not _is_number(until):
        return False
    if since is not None and not _is_number(since):
        return False
    return is_tuple_up_to(bursts, MAX_BURSTS)


def _is_burst(value):
    if not is_tuple_of(value, 4):
        return False
    tick, on, off, times = value
    if not _is_number(tick):
        return False
    if not is_between(on, 1, MAX_NUMBER) or not is_between(times, 1, MAX_NUMBER):
        return False
    if times == 1:
        return is_between(off, 0, 0)
    return is_between(off, 1, MAX_NUMBER)


def _burst_error(signal):
    for place, item in enumerate(signal[1]):
        if not _is_burst(item):
            return ("burst", place)
    return None


def _order_error(signal):
    if signal == ALWAYS_ON:
        return None
    until, bursts, since = signal
    last = until
    for place, burst in enumerate(bursts):
        if not _is_behind(burst[0], last):
            return ("order", place)
        last = burst_end(burst)
    if since is not None and not _is_behind(since, last):
        return ("since",)
    return None


def _is_behind(tick, last):
    """Return whether there is an off tick at least between last and tick.

    last is the first tick behind what is ahead, None if nothing is.
    """
    return last is None or tick > last


def _joined_error(signal):
    bursts = signal[1]
    for place, (first, second) in enumerate(zip(bursts, bursts[1:])):
        if takes_on(first, second):
            return ("joined", place)
    return None
