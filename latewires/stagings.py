"""Stages by themselves: what they drop and fill at most, and the straight walk through them."""


def most_dropped(steps):
    """Return the number of the last drop of steps, 0 if there is none."""
    return _last_number(steps, "drop")


def most_filled(steps):
    """Return the number of the last fill of steps, 0 if there is none."""
    return _last_number(steps, "fill")


def straight_heights(steps):
    """Return the tuple of the heights that the straight walk of steps comes to, one for each stage."""
    return tuple([number if word == "drop" else -number for word, number in steps])


def straight_end(steps):
    """Return the height at which the straight walk of steps ends."""
    return straight_heights(steps)[-1] if steps else 0


def least_lateness(steps, height):
    """Return how many ticks a walk goes up at least that makes steps and ends at height."""
    levels = (0,) + straight_heights(steps) + (height,)
    # Where the walk goes down to height in the end it does not go up by that.
    return sum([max(0, after - ahead) for ahead, after in zip(levels, levels[1:])])


def _last_number(steps, word):
    """Return the number of the last one of steps that has word, 0 if there is none."""
    # The numbers of either word ascend.
    return max([number for kind, number in steps if kind == word], default=0)
