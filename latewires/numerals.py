"""Integers in decimal."""

# As many as MAX_NUMBER has: a longer text need not be turned into an integer at all.
MAX_FIGURES = 61
FIGURES = "0123456789"


def read_integer(text):
    """Return the integer of which text is the decimal, None if there is none of at most MAX_FIGURES figures."""
    figures = text.removeprefix("-")
    if not figures or len(figures) > MAX_FIGURES:
        return None
    if any([sign not in FIGURES for sign in figures]):
        return None
    number = int(text)
    # This bars noughts ahead, and "-0".
    return number if str(number) == text else None
