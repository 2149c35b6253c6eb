"""Small signals told tick by tick: what the tests hold the program against.

A *strip* is a pair (left, ticks): left is whether all ticks below the first one
are on, ticks the list of bools from the tick START on. The last bool holds for
all ticks behind the list.
"""

START = -6


def strip_at(strip, tick):
    """Return whether a strip is on at tick."""
    left, ticks = strip
    if tick < START:
        return left
    return ticks[min(tick - START, len(ticks) - 1)]


def strip_of(signal, length):
    """Return the strip of a signal that does not change from START + length - 1 on."""
    until, bursts, since = signal
    on = set()
    for tick, ons, off, times in bursts:
        for k in range(times):
            on.update(range(tick + k * (ons + off), tick + k * (ons + off) + ons))
    ticks = []
    for tick in range(START, START + length):
        ends = (until is not None and tick < until) or (since is not None and tick >= since)
        ticks.append(ends or tick in on)
    return until is not None, ticks


def runs_of(ticks):
    """Return the list of pairs [first tick, how many ticks] of the ons of a list of bools."""
    runs = []
    for place, on in enumerate(ticks):
        if on and runs and runs[-1][0] + runs[-1][1] == START + place:
            runs[-1][1] += 1
        elif on:
            runs.append([START + place, 1])
    return runs


def signal_of(strip):
    """Return the signal of a strip, told in the one way: from the left each burst takes all it can."""
    left, ticks = strip
    if left and all(ticks):
        return (0, (), 0)
    runs = runs_of(ticks)
    until = since = None
    if left:
        until = START
        if ticks[0]:
            until += runs.pop(0)[1]
    if ticks[-1]:
        since = runs.pop()[0]
    return (until, tuple(bursts_of(runs)), since)


def bursts_of(runs):
    """Return the list of the bursts of runs, from the left."""
    bursts = []
    while runs:
        tick, on = runs[0]
        many = 1
        off = 0
        while many < len(runs) and runs[many][1] == on:
            gap = runs[many][0] - runs[many - 1][0] - on
            if many > 1 and gap != off:
                break
            off = gap
            many += 1
        bursts.append((tick, on, off, many))
        runs = runs[many:]
    return bursts


def all_strips(length):
    """Yield each strip of so many ticks."""
    for left in (False, True):
        for bits in range(2 ** length):
            yield left, [bits >> k & 1 == 1 for k in range(length)]


def train_strip(rng, pieces):
    """Return a strip with trains in it, made of so many pieces by a random source."""
    left = rng.random() < 0.4
    ticks = [left] * rng.randint(0, 3)
    for _ in range(pieces):
        on, off = rng.randint(1, 4), rng.randint(1, 4)
        for _ in range(rng.choice((1, 1, 2, 3, 4))):
            ticks += [True] * on + [False] * off
        ticks += [False] * rng.choice((0, 0, 1, 2))
    ticks += [rng.random() < 0.4] * rng.randint(1, 3)
    return left, ticks
