"""What rows answer to signals."""

from latewires.changes import led_later, turned, without_short_offs, without_short_ons
from latewires.rows import TURN


def answer(row, signal):
    """Return what comes of signal behind the last part of row."""
    told = signal
    for part in row:
        told = _part_answer(part, told)
    return told


def answers(row, signal):
    """Return the tuple of what comes of signal behind each part of row."""
    told = []
    now = signal
    for part in row:
        now = _part_answer(part, now)
        told.append(now)
    return tuple(told)


def _part_answer(part, signal):
    if part == TURN:
        return turned(signal)
    word, ticks = part
    if word == "on":
        return led_later(without_short_ons(signal, ticks), ticks, 0)
    if word == "off":
        return led_later(without_short_offs(signal, ticks), 0, ticks)
    return led_later(signal, ticks, ticks)
