"""Chains: rows that single exchanges lead to one another."""

from latewires.bounds import MAX_STEPS
from latewires.exchanges import (
    is_timer, nothing_left, outcomes, places_changed, put_together, swing_gone, turn_led, turns_gone,
)
from latewires.kinds import is_plain_integer, is_tuple_of, is_tuple_up_to
from latewires.orders import alike
from latewires.rows import TURN

# How many neighbouring parts an exchange, told from left to right, may take.
SIZES = (1, 2, 3)


def is_exchange(row, other):
    """Return whether one exchange leads the long row row to other."""
    if row == other:
        return False
    return _is_led(row, other) or _is_led(other, row)


def chain(one, other):
    """Return None if both rows are not alike, otherwise a chain from one to other."""
    if not alike(one, other):
        return None
    there, back = _way_down(one), _way_down(other)
    # Both ways end at one row; what they have in common ahead of it need not be gone there and back.
    while len(there) > 1 and len(back) > 1 and there[-2] == back[-2]:
        there.pop()
        back.pop()
    back.pop()
    return tuple(there + back[::-1])


def chain_holds(one, other, value):
    """Return whether value is a chain from one to other."""
    if not is_tuple_up_to(value, MAX_STEPS) or not value:
        return False
    if not all([_is_long_row(item) for item in value]):
        return False
    if value[0] != one or value[-1] != other:
        return False
    return all([is_exchange(row, behind) for row, behind in zip(value, value[1:])])


def _is_led(row, other):
    """Return whether an exchange, told from left to right, leads row to other."""
    ahead = _alike_parts(row, other)
    behind = _alike_parts(row[::-1], other[::-1])
    for size in SIZES:
        # Only from first to last do both rows have all parts ahead of the exchange, and all behind it, in common.
        first = max(0, len(row) - size - behind)
        last = min(ahead, len(row) - size)
        for place in range(first, last + 1):
            if _is_led_at(row, other, place, size):
                return True
    return False


def _is_led_at(row, other, place, size):
    """Return whether an exchange of so many parts from place on leads row to other, what is around them being alike."""
    longer = len(other) - len(row)
    told = [after for after in outcomes(row[place:place + size]) if len(after) == size + longer]
    return other[place:place + size + longer] in told


def _alike_parts(row, other):
    """Return how many parts both rows have in common from the left."""
    for place, (part, beside) in enumerate(zip(row, other)):
        if part != beside:
            return place
    return min(len(row), len(other))


def _replaced(row, place, size, parts):
    """Return row with parts in the place of so many of its parts from place on."""
    return row[:place] + parts + row[place + size:]


def _is_long_row(value):
    return isinstance(value, tuple) and all([_is_long_part(item) for item in value])


def _is_long_part(value):
    if value == TURN:
        return True
    if not is_tuple_of(value, 2) or value[0] not in ("on", "off", "delay"):
        return False
    return is_plain_integer(value[1]) and value[1] >= 0


def _way_down(row):
    """Return the list of row and all that comes behind it, exchange by exchange.

    The last one is the same for all alike rows: timers that swing farther and
    farther, but for the last one, then a delay, then a turn.
    """
    way = []
    now = row
    while now is not None:
        way.append(now)
        now = _next_down(now)
    return way


def _next_down(row):
    """Return what one exchange leads row down to, None if it is down."""
    for size in SIZES:
        for place in range(len(row) - size + 1):
            after = _led_down(row[place:place + size])
            if after is not None:
                return _replaced(row, place, size, after)
    return None


def _led_down(parts):
    """Return what an exchange that leads down puts in the place of parts, None if there is none."""
    if len(parts) == 1:
        return nothing_left(parts)
    if len(parts) == 3:
        return swing_gone(parts)
    first, second = parts
    if first[0] == second[0]:
        return turns_gone(parts) if first == TURN else put_together(parts)
    if first == TURN and is_timer(second):
        return turn_led(parts)
    if first == TURN or (first[0] == "delay" and is_timer(second)):
        return places_changed(parts)
    return None
