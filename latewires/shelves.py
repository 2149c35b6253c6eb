"""Shelves, ascending tuples of pairs (name, row), and what edits make of them."""

from latewires.bounds import BATCH, MAX_NAMES
from latewires.errors import BadBatch, BadRow, NoName, Rejected, Taken, TooMany, Unfit, WireError
from latewires.kinds import is_between, is_tuple_up_to
from latewires.rows import row_error
from latewires.words import is_name

# How many arguments the edit of each word has.
ARGUMENTS = {"keep": 2, "drop": 1, "put": 3, "take": 2, "link": 3, "batch": 1}


def is_edit(value):
    """Return whether value is a tuple of the word of an edit and of as many arguments as it has."""
    if not isinstance(value, tuple) or not value:
        return False
    word = value[0]
    return isinstance(word, str) and word in ARGUMENTS and len(value) == 1 + ARGUMENTS[word]


def row_named(shelf, name):
    """Return the row of name; raise NoName if shelf does not have it."""
    for known, row in shelf:
        if known == name:
            return row
    raise NoName(name)


def edited(shelf, edit):
    """Return the shelf behind an edit, a tuple of its word and its arguments."""
    if edit[0] == "batch":
        return _batched(shelf, edit[1])
    change = CHANGES[edit[0]]
    arguments = edit[1:]
    return change(shelf, *arguments)


def _kept(shelf, name, row):
    if not is_name(name):
        raise Unfit()
    _want_row(row)
    if name in [known for known, _ in shelf]:
        raise Taken(name)
    if len(shelf) >= MAX_NAMES:
        raise TooMany(MAX_NAMES)
    return tuple(sorted(shelf + ((name, row),)))


def _dropped(shelf, name):
    gone = (name, row_named(shelf, name))
    return tuple([pair for pair in shelf if pair != gone])


def _put_in(shelf, name, place, part):
    row = row_named(shelf, name)
    if not is_between(place, 0, len(row)):
        raise Unfit()
    longer = row[:place] + (part,) + row[place:]
    _want_row(longer)
    return _with_row(shelf, name, longer)


def _taken_out(shelf, name, place):
    row = row_named(shelf, name)
    if not is_between(place, 0, len(row) - 1):
        raise Unfit()
    return _with_row(shelf, name, row[:place] + row[place + 1:])


def _linked(shelf, name, other, fresh):
    row = row_named(shelf, name) + row_named(shelf, other)
    return _kept(shelf, fresh, row)


def _batched(shelf, edits):
    if not _is_batch(edits):
        raise BadBatch()
    told = shelf
    for index, edit in enumerate(edits):
        try:
            told = edited(told, edit)
        except WireError:
            raise Rejected(index)
    return told


def _is_batch(value):
    return is_tuple_up_to(value, BATCH) and all([is_edit(item) and item[0] != "batch" for item in value])


def _want_row(value):
    error = row_error(value)
    if error is not None:
        raise BadRow(error)


def _with_row(shelf, name, row):
    """Return shelf with row in the place of that of name."""
    return tuple([(known, row if known == name else old) for known, old in shelf])


CHANGES = {"keep": _kept, "drop": _dropped, "put": _put_in, "take": _taken_out, "link": _linked}
