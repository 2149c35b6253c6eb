"""What can be done to a whole signal, burst by burst."""

from latewires.bursts import burst_end, burst_of, joined
from latewires.signals import ALWAYS_OFF, ALWAYS_ON


def turned(signal):
    """Return the signal that is on where signal is off."""
    if signal == ALWAYS_ON:
        return ALWAYS_OFF
    if signal == ALWAYS_OFF:
        return ALWAYS_ON
    until, bursts, since = signal
    begins = [burst[0] for burst in bursts] + [since]
    ends = [until] + [burst_end(burst) for burst in bursts]
    first = begins[0] if until is None else None
    last = ends[-1] if since is None else None
    return (first, joined(_offs(signal)), last)


def without_short_ons(signal, ticks):
    """Return signal without its ons of at most so many ticks; endless ones stay."""
    until, bursts, since = signal
    return (until, joined([burst for burst in bursts if burst[1] > ticks]), since)


def without_short_offs(signal, ticks):
    """Return signal with its offs of at most so many ticks filled; endless ones stay."""
    return turned(without_short_ons(turned(signal), ticks))


def led_later(signal, late_on, late_off):
    """Return signal with each on beginning late_on, and ending late_off, ticks later.

    The ons must be long enough for that, and the offs, too.
    """
    if signal == ALWAYS_ON:
        return signal
    until, bursts, since = signal
    longer = late_off - late_on
    led = [burst_of(tick + late_on, on + longer, off - longer, times) for tick, on, off, times in bursts]
    return (_later(until, late_off), tuple(led), _later(since, late_on))


def _later(tick, ticks):
    return None if tick is None else tick + ticks


def _offs(signal):
    """Return the list of the bursts that are on at the offs of signal that end on both sides."""
    until, bursts, since = signal
    offs = []
    behind = until
    for burst in bursts:
        tick, on, off, times = burst
        if behind is not None:
            offs.append(burst_of(behind, tick - behind, 0, 1))
        if times > 1:
            offs.append(burst_of(tick + on, off, on, times - 1))
        behind = burst_end(burst)
    if behind is not None and since is not None:
        offs.append(burst_of(behind, since - behind, 0, 1))
    return offs
