"""Of which kind a value is, whatever value it may be."""


def is_plain_integer(value):
    """Return whether value is an integer: a bool is none."""
    return isinstance(value, int) and not isinstance(value, bool)


def is_between(value, low, high):
    """Return whether value is an integer from low to high."""
    return is_plain_integer(value) and low <= value <= high


def is_tuple_of(value, length):
    """Return whether value is a tuple of so many items."""
    return isinstance(value, tuple) and len(value) == length


def is_tuple_up_to(value, length):
    """Return whether value is a tuple of at most so many items."""
    return isinstance(value, tuple) and len(value) <= length
