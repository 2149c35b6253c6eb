"""Words of small letters, and names."""

from latewires.bounds import MAX_NAME

LETTERS = "abcdefghijklmnopqrstuvwxyz"


def is_word(value):
    """Return whether value is a string of 1 to MAX_NAME small letters."""
    if not isinstance(value, str) or not 1 <= len(value) <= MAX_NAME:
        return False
    return all([sign in LETTERS for sign in value])


def is_name(value):
    """Return whether value is a name."""
    # The text of an empty list of names is no name.
    return is_word(value) and value != "none"
