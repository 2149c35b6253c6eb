"""What the forms of rows mean."""

from latewires.changes import led_later, turned, without_short_offs, without_short_ons


def cleaned(steps, signal):
    """Return signal with its short ons dropped and its short offs filled, stage by stage."""
    told = signal
    for word, ticks in steps:
        if word == "drop":
            told = without_short_ons(told, ticks)
        else:
            told = without_short_offs(told, ticks)
    return told


def meant(shape, signal):
    """Return the signal that the form shape means for signal."""
    is_turned, late_on, late_off, steps = shape
    led = led_later(cleaned(steps, signal), late_on, late_off)
    return turned(led) if is_turned else led
