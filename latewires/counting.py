"""All forms that rows of on-delays and off-delays with so many ticks have, and how many they are."""

from latewires.bounds import MAX_COUNT, MAX_EFFECT
from latewires.errors import TooMany
from latewires.walks import form

STEPS = (("on", 1), ("off", 1))


def effects(ticks):
    """Return the ascending tuple of the forms of all rows of timers with so many ticks together."""
    if ticks > MAX_EFFECT:
        raise TooMany(MAX_EFFECT)
    rows = {form(()): ()}
    for _ in range(ticks):
        # Rows with one form have one form behind a further tick, too: so one of them is enough.
        longer = [row + (step,) for row in rows.values() for step in STEPS]
        rows = {form(row): row for row in longer}
    return tuple(sorted(rows))


def effect_count(ticks):
    """Return how many forms rows of timers with so many ticks together have."""
    if ticks > MAX_COUNT:
        raise TooMany(MAX_COUNT)
    if ticks == 0:
        return 1
    # What a straight walk and its last timer leave of the ticks goes up and down again: an even number.
    walks = _walk_counts(ticks)
    return 2 * sum(walks[ticks % 2::2])


def _walk_counts(ticks):
    """Return the list that tells, for 0 to ticks, how many rows a(1) < .. < a(m - 1), a(m) have this sum."""
    ahead = _ascending_counts(ticks)
    counts = [0]
    for total in range(ticks):
        # The last item is 1 at least, so those ahead of it have any sum below.
        counts.append(counts[-1] + ahead[total])
    return counts


def _ascending_counts(ticks):
    """Return the list that tells, for 0 to ticks, how many ascending rows of integers from 1 on have this sum."""
    counts = [1] + [0] * ticks
    for item in range(1, ticks + 1):
        for total in range(ticks, item - 1, -1):
            counts[total] = counts[total] + counts[total - item]
    return counts
