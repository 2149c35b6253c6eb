"""Rows for forms, with as few parts or as few timers as can be."""

from latewires.bounds import MAX_TIMERS
from latewires.errors import BadForm, NoRow, TooMany
from latewires.forms import form_error
from latewires.rows import TURN
from latewires.stagings import least_lateness, most_dropped, most_filled, straight_end, straight_heights


def row_of(shape):
    """Return a row with the form shape."""
    return fewest_parts(shape)


def fewest_parts(shape):
    """Return a row with the form shape that has as few parts as can be."""
    _want_form(shape)
    height, spare = _height_and_spare(shape)
    timers = _timers_to(straight_heights(shape[3]) + (height,))
    delays = (("delay", spare),) if spare > 0 else ()
    return timers + delays + _turns(shape)


def fewest_timers(shape):
    """Return a row with the form shape that has no delay, and as few timers as can be."""
    _want_form(shape)
    steps = shape[3]
    if not steps and shape[1] > 0:
        raise NoRow()
    further = _further_timers(shape)
    if len(steps) + further > MAX_TIMERS:
        raise TooMany(MAX_TIMERS)
    return _timers_to(straight_heights(steps) + _further_heights(shape, further)) + _turns(shape)


def _want_form(shape):
    error = form_error(shape)
    if error is not None:
        raise BadForm(error)


def _turns(shape):
    return (TURN,) if shape[0] else ()


def _timers_to(levels):
    """Return the tuple of timers that lead from the height 0 to all levels, in order; a level may come twice."""
    timers = []
    height = 0
    for level in levels:
        if level > height:
            timers.append(("on", level - height))
        elif level < height:
            timers.append(("off", height - level))
        height = level
    return tuple(timers)


def _height_and_spare(shape):
    """Return at which height the walk ends, and how many ticks it is late on beyond the least lateness."""
    _, late_on, late_off, steps = shape
    height = late_on - late_off
    return (height, late_on - least_lateness(steps, height))


def _room(steps):
    """Return how many ticks lie between the least and the greatest height of a walk that makes steps."""
    return most_dropped(steps) + most_filled(steps)


def _further_timers(shape):
    """Return how many timers are needed at least behind those that make the stages.

    A swing is two timers: away from an end of the room, and back by spare ticks.
    """
    height, spare = _height_and_spare(shape)
    room = _room(shape[3])
    away = abs(height - straight_end(shape[3]))
    if away == 0 and spare == 0:
        return 0
    choices = []
    if away > 0:
        # Swings, and a timer that leads to the height in the end.
        choices.append(2 * _times_needed(spare, room) + 1)
    if away < room and spare > 0:
        # Swings, the last of which leads to the height in the end: it has less room.
        choices.append(2 * _times_needed(spare - (room - away), room) + 2)
    return min(choices)


def _times_needed(ticks, most):
    """Return how many times at most so many ticks are needed for ticks together."""
    return max(0, -(-ticks // most))


def _further_heights(shape, further):
    """Return the tuple of the heights behind so many further timers, as few as can be, to the end of the walk."""
    height, spare = _height_and_spare(shape)
    end, room = straight_end(shape[3]), _room(shape[3])
    # The straight walk ends at one end of the room: from there it can swing to one side alone.
    side = -1 if end > 0 else 1
    levels = []
    swings = further // 2
    for place in range(swings):
        leads_on = place == swings - 1 and further == 2 * swings
        back_at = height if leads_on else end
        # There are so few swings that all but the last want the whole room.
        ticks = min(room, spare)
        spare -= ticks
        levels.append(back_at + side * ticks)
        levels.append(back_at)
    levels.append(height)
    return tuple(levels)
