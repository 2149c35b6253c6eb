"""Rows that are done again and again."""

from latewires.walks import form, stages


def power_form(row, times):
    """Return the form of so many times row, one behind another."""
    is_turned, late_on, late_off, _ = form(row)
    # A row that is not turned goes on as it does the second time; a turned one is back at the height 0 by then.
    steps = stages(row * min(times, 2))
    if is_turned:
        pairs, odd = divmod(times, 2)
        both = pairs * (late_on + late_off)
        return (odd == 1, both + odd * late_on, both + odd * late_off, steps)
    if times > 2:
        steps = _led_on(steps, (times - 2) * abs(late_on - late_off))
    return (False, times * late_on, times * late_off, steps)


def settles(row):
    """Return the least number of times behind which row only delays, None if there is none."""
    is_turned, late_on, late_off, steps = form(row)
    if is_turned or late_on != late_off:
        return None
    return 1 if steps else 0


def _led_on(steps, ticks):
    """Return steps with the number of the last one greater by ticks."""
    if not steps:
        return steps
    word, number = steps[-1]
    return steps[:-1] + ((word, number + ticks),)
