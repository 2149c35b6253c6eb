"""Bursts: quadruples (tick, on, off, times) of ons that come again alike."""


def burst_end(burst):
    """Return the first tick behind burst."""
    tick, on, off, times = burst
    return tick + times * on + (times - 1) * off


def burst_ons_below(burst, tick):
    """Return at how many ticks below tick burst is on."""
    begin, on, off, times = burst
    ahead = tick - begin
    if ahead <= 0:
        return 0
    rounds = ahead // (on + off)
    if rounds >= times:
        return times * on
    return rounds * on + min(on, ahead - rounds * (on + off))


def takes_on(first, second):
    """Return whether first would take on from second, the burst behind it."""
    if first[1] != second[1]:
        return False
    return first[3] == 1 or first[2] == second[0] - burst_end(first)
