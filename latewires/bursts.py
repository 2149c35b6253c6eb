"""Bursts: quadruples (tick, on, off, times) of ons that come again alike."""


def burst_end(burst):
    """Return the first tick behind burst."""
    tick, on, off, times = burst
    return tick + times * on + (times - 1) * off


def burst_ons_below(burst, tick):
    """Return at how many ticks below tick burst is on."""
    begin, on, off, times = burst
    ahead = tick - begin
    if ahead <= 0:
        return 0
    rounds = ahead // (on + off)
    if rounds >= times:
        return times * on
    return rounds * on + min(on, ahead - rounds * (on + off))


def takes_on(first, second):
    """Return whether first would take on from second, the burst behind it."""
    if first[1] != second[1]:
        return False
    return first[3] == 1 or first[2] == second[0] - burst_end(first)


def burst_of(tick, on, off, times):
    """Return the burst of so many ons, off ticks between them: off tells nothing if there is one on alone."""
    return (tick, on, off if times > 1 else 0, times)


def train_beyond(on, off, ticks):
    """Return the burst of ons, offs between them, of which there are just so many that filled it has more than ticks.

    With an off of 0, which stands for none, on must be above ticks: one on is enough then.
    """
    return burst_of(0, on, off, (ticks + off) // (on + off) + 1)


def joined(bursts):
    """Return the tuple of bursts in which, from the left, each one has taken on all that goes on alike.

    bursts are in order, with an off tick at least between two.
    """
    told = []
    for burst in bursts:
        if told and takes_on(told[-1], burst):
            told[-1:] = _taken_on(told[-1], burst)
        else:
            told.append(burst)
    return tuple(told)


def _taken_on(first, second):
    """Return the list of first with what it takes on from second, and what is left of second, if anything is."""
    tick, on, _, times = first
    begin, _, off, many = second
    gap = begin - burst_end(first)
    if many == 1 or off == gap:
        return [(tick, on, gap, times + many)]
    return [(tick, on, gap, times + 1), burst_of(begin + on + off, on, off, many - 1)]
