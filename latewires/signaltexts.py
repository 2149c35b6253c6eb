"""The texts of signals."""

from latewires.errors import BadText
from latewires.numerals import read_integer
from latewires.signals import ALWAYS_ON, signal_error


def signal_text(signal):
    """Return the text of signal."""
    if signal == ALWAYS_ON:
        return "on"
    until, bursts, since = signal
    pieces = [_burst_text(burst) for burst in bursts]
    if until is not None:
        pieces.insert(0, f"until {until}")
    if since is not None:
        pieces.append(f"since {since}")
    return "; ".join(pieces)


def read_signal(value):
    """Return the signal of which value is the text; raise BadText if there is none."""
    signal = _signal_told(value) if isinstance(value, str) else None
    # What is told loosely is no signal, or has another text.
    if signal_error(signal) is not None or signal_text(signal) != value:
        raise BadText()
    return signal


def _burst_text(burst):
    tick, on, off, times = burst
    if times == 1:
        return f"{tick} {on}"
    return f"{tick} {on} {off} {times}"


def _signal_told(text):
    """Return a triple of what the pieces of text tell, without a look at whether it is a signal."""
    if text == "on":
        return ALWAYS_ON
    pieces = text.split("; ") if text else []
    until = since = None
    if pieces and pieces[0].startswith("until "):
        until = read_integer(pieces[0].removeprefix("until "))
        pieces = pieces[1:]
    if pieces and pieces[-1].startswith("since "):
        since = read_integer(pieces[-1].removeprefix("since "))
        pieces = pieces[:-1]
    return (until, tuple([_burst_told(piece) for piece in pieces]), since)


def _burst_told(piece):
    numbers = [read_integer(word) for word in piece.split(" ")]
    if len(numbers) == 2:
        numbers = numbers + [0, 1]
    return tuple(numbers)
