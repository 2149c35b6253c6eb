"""Single exchanges: what comes in the place of some neighbouring parts of a long row.

Each function that does one takes the tuple of these parts, and returns the
tuple of those that come in their place, None if that exchange cannot be.
"""

from latewires.rows import TURN

CONTRARIES = {"on": "off", "off": "on"}


def outcomes(parts):
    """Return the list of all that exchanges, told from left to right, put in the place of one to three parts."""
    if len(parts) == 1:
        told = [nothing_left(parts)]
    elif len(parts) == 2:
        told = [put_together(parts), places_changed(parts), turns_gone(parts), turn_led(parts)]
    else:
        told = [swing_gone(parts)]
    return [after for after in told if after is not None]


def nothing_left(parts):
    """Leave a timer or a delay of 0 ticks away."""
    part = parts[0]
    return () if part != TURN and part[1] == 0 else None


def put_together(parts):
    """Make one part of two with one word, not turns."""
    first, second = parts
    if first == TURN or first[0] != second[0]:
        return None
    return ((first[0], first[1] + second[1]),)


def places_changed(parts):
    """Let a delay and the part beside it change places."""
    first, second = parts
    if first[0] != "delay" and second[0] != "delay":
        return None
    return (second, first)


def turns_gone(parts):
    """Leave two turns away."""
    return () if parts == (TURN, TURN) else None


def turn_led(parts):
    """Lead a turn behind a timer, which gets the contrary word."""
    first, second = parts
    if first != TURN or not is_timer(second):
        return None
    return ((CONTRARIES[second[0]], second[1]), TURN)


def swing_gone(parts):
    """Make a delay of the ticks by which three timers go back and come again."""
    first, second, third = parts
    if not is_timer(first) or not is_timer(second):
        return None
    if second[0] == first[0] or third[0] != first[0]:
        return None
    ahead, back, again = first[1], second[1], third[1]
    if back < 1 or back > ahead:
        return None
    if again >= back:
        return (first, ("delay", back), (third[0], again - back))
    return (first, ("delay", again), (second[0], back - again))


def is_timer(part):
    """Return whether part is an on-delay or an off-delay."""
    return part[0] in CONTRARIES
