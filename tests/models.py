"""Small signals told tick by tick: what the tests hold the program against.

A *strip* is a pair (left, ticks): left is whether all ticks below the first one
are on, ticks the list of bools from the tick START on. The last bool holds for
all ticks behind the list.
"""

START = -6


def strip_at(strip, tick):
    """Return whether a strip is on at tick."""
    left, ticks = strip
    if tick < START:
        return left
    return ticks[min(tick - START, len(ticks) - 1)]


def strip_of(signal, length):
    """Return the strip of a signal that does not change from START + length - 1 on."""
    until, bursts, since = signal
    on = set()
    for tick, ons, off, times in bursts:
        for k in range(times):
            on.update(range(tick + k * (ons + off), tick + k * (ons + off) + ons))
    ticks = []
    for tick in range(START, START + length):
        ends = (until is not None and tick < until) or (since is not None and tick >= since)
        ticks.append(ends or tick in on)
    return until is not None, ticks


def runs_of(ticks):
    """Return the list of pairs [first tick, how many ticks] of the ons of a list of bools."""
    runs = []
    for place, on in enumerate(ticks):
        if on and runs and runs[-1][0] + runs[-1][1] == START + place:
            runs[-1][1] += 1
        elif on:
            runs.append([START + place, 1])
    return runs


def signal_of(strip):
    """Return the signal of a strip, told in the one way: from the left each burst takes all it can."""
    left, ticks = strip
    if left and all(ticks):
        return (0, (), 0)
    runs = runs_of(ticks)
    until = since = None
    if left:
        until = START
        if ticks[0]:
            until += runs.pop(0)[1]
    if ticks[-1]:
        since = runs.pop()[0]
    return (until, tuple(bursts_of(runs)), since)


def bursts_of(runs):
    """Return the list of the bursts of runs, from the left."""
    bursts = []
    while runs:
        tick, on = runs[0]
        many = 1
        off = 0
        while many < len(runs) and runs[many][1] == on:
            gap = runs[many][0] - runs[many - 1][0] - on
            if many > 1 and gap != off:
                break
            off = gap
            many += 1
        bursts.append((tick, on, off, many))
        runs = runs[many:]
    return bursts


def all_strips(length):
    """Yield each strip of so many ticks."""
    for left in (False, True):
        for bits in range(2 ** length):
            yield left, [bits >> k & 1 == 1 for k in range(length)]


def train_strip(rng, pieces):
    """Return a strip with trains in it, made of so many pieces by a random source."""
    left = rng.random() < 0.4
    ticks = [left] * rng.randint(0, 3)
    for _ in range(pieces):
        on, off = rng.randint(1, 4), rng.randint(1, 4)
        for _ in range(rng.choice((1, 1, 2, 3, 4))):
            ticks += [True] * on + [False] * off
        ticks += [False] * rng.choice((0, 0, 1, 2))
    ticks += [rng.random() < 0.4] * rng.randint(1, 3)
    return left, ticks


def row_strips(row, strip):
    """Return the list of the strips behind each part of row, each part done tick by tick as it is told."""
    strips = []
    reach = sum(part[1] for part in row if part != ("turn",))
    left, ticks = strip
    now = (left, ticks + [ticks[-1]] * reach)
    for part in row:
        now = part_strip(part, now)
        strips.append(now)
    return strips


def part_strip(part, strip):
    """Return the strip behind one part; the part must not be on or off behind the end of the strip's list."""
    left, ticks = strip
    places = range(START, START + len(ticks))
    if part == ("turn",):
        return not left, [not on for on in ticks]
    word, reach = part
    if word == "delay":
        return left, [strip_at(strip, tick - reach) for tick in places]
    every = {"on": all, "off": any}[word]
    return left, [every([strip_at(strip, tick - k) for k in range(reach + 1)]) for tick in places]


def moved(signal, ticks):
    """Return signal so many ticks later."""
    if signal == (0, (), 0):
        return signal
    until, bursts, since = signal
    return (
        None if until is None else until + ticks,
        tuple((tick + ticks, on, off, times) for tick, on, off, times in bursts),
        None if since is None else since + ticks,
    )


def scaled_signal(signal, by):
    """Return signal with each tick made so many ticks."""
    until, bursts, since = signal
    return (
        None if until is None else until * by,
        tuple((tick * by, on * by, off * by, times) for tick, on, off, times in bursts),
        None if since is None else since * by,
    )


def scaled_row(row, by):
    """Return row with each tick made so many ticks."""
    return tuple((part[0], *(ticks * by for ticks in part[1:])) for part in row)


def some_row(rng, parts, most, words=("on", "off", "delay", "turn")):
    """Return a row of so many parts, each of at most so many ticks, by a random source."""
    row = []
    for _ in range(parts):
        word = rng.choice(words)
        row.append((word,) if word == "turn" else (word, rng.randint(0, most)))
    return tuple(row)


def is_told_in_one_way(signal):
    """Return whether signal, with whatever many bursts and great numbers, is told as signals are told."""
    if signal == (0, (), 0):
        return True
    until, bursts, since = signal
    behind = until
    ahead = None
    for tick, on, off, times in bursts:
        if on < 1 or times < 1 or (off < 1) != (times == 1) or off < 0:
            return False
        if behind is not None and tick <= behind:
            return False
        if ahead is not None and ahead[1] == on and (ahead[3] == 1 or ahead[2] == tick - behind):
            return False
        behind = tick + times * on + (times - 1) * off
        ahead = (tick, on, off, times)
    return since is None or behind is None or since > behind


def long_signal(rng, bursts, most, many):
    """Return a signal of so many bursts by a random source, with ons, offs up to most, up to many of them a burst."""
    until = rng.randint(-most, most) if rng.random() < 0.5 else None
    behind = 0 if until is None else until
    told = []
    for _ in range(bursts):
        on, off, times, gap = (rng.randint(1, rng.choice((3, top))) for top in (most, most, many, most))
        if told and told[-1][1] == on and (told[-1][3] == 1 or told[-1][2] == gap):
            on += 1
        told.append((behind + gap, on, off if times > 1 else 0, times))
        behind += gap + times * on + (times - 1) * told[-1][2]
    since = behind + rng.randint(1, most) if rng.random() < 0.5 else None
    return until, tuple(told), since


def edges_of(signal):
    """Return the list of the first tick of the ons and offs of signal, of great trains of the first and the last ones."""
    until, bursts, since = signal
    edges = [tick for tick in (until, since) if tick is not None]
    for tick, on, off, times in bursts:
        for k in (0, 1, times // 2, times - 2, times - 1):
            begin = tick + min(max(k, 0), times - 1) * (on + off)
            edges += [begin, begin + on]
    return edges


def keeping(strip, ons, offs):
    """Return whether the ons and offs of a strip that end on both sides have at least so many ticks."""
    left, ticks = strip
    runs = [[left, 0]]
    for on in ticks:
        if on != runs[-1][0]:
            runs.append([on, 0])
        runs[-1][1] += 1
    # The first run and the last one are endless.
    return all(many >= (ons if on else offs) for on, many in runs[1:-1])
