"""What single ons, and single offs, come to."""

from latewires.stagings import most_dropped, most_filled
from latewires.walks import form


def pulse(row, ons):
    """Return the pair (tick, ticks) of what one on of so many ticks comes to, None if it is lost."""
    _, late_on, late_off, steps = form(row)
    if ons <= most_dropped(steps):
        return None
    return (late_on, ons - late_on + late_off)


def gap(row, offs):
    """Return the pair (tick, ticks) of what one off of so many ticks comes to, None if it is lost."""
    _, late_on, late_off, steps = form(row)
    if offs <= most_filled(steps):
        return None
    return (late_off, offs - late_off + late_on)
