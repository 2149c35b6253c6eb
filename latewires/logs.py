"""Logs: the texts of edits, line by line, and benches behind them."""

from latewires.benches import Bench
from latewires.bounds import MAX_NEST, MAX_NUMBER
from latewires.errors import BadLog, WireError
from latewires.kinds import is_between
from latewires.numerals import read_integer
from latewires.shelves import is_edit
from latewires.words import is_word


def log_text(edits):
    """Return the texts of edits, each with a line feed behind it."""
    return "".join([_value_text(edit) + "\n" for edit in edits])


def read_log(value):
    """Return the tuple of the edits of which the lines of value are the texts; raise BadLog if there is none."""
    if not isinstance(value, str):
        raise BadLog(0)
    edits = []
    # What stands behind the last line feed is no line.
    for place, line in enumerate(value.split("\n")[:-1]):
        edit = _tuple_told(line)
        # What is told loosely has another text.
        if not is_edit(edit) or _value_text(edit) != line:
            raise BadLog(place)
        edits.append(edit)
    return tuple(edits)


def bench_behind(edits):
    """Return a new bench by which edits were done; raise BadLog with the place of the first one that cannot be done."""
    bench = Bench()
    ways = {
        "keep": bench.keep, "drop": bench.drop, "put": bench.put,
        "take": bench.take, "link": bench.link, "batch": bench.batch,
    }
    for place, edit in enumerate(edits):
        way = ways[edit[0]]
        arguments = edit[1:]
        try:
            way(*arguments)
        except WireError:
            raise BadLog(place)
    return bench


def _value_text(value):
    if not isinstance(value, tuple):
        return str(value)
    return "(" + ",".join([_value_text(item) for item in value]) + ")"


def _tuple_told(line):
    """Return the tuple that the brackets, commas and atoms of line tell, None if they tell none.

    Commas, and what stands around the tuple, are not looked at.
    """
    # The items of each tuple whose bracket is not closed; the first list is for the tuple itself.
    nest = [[]]
    atom = ""
    for sign in line:
        if sign not in "(,)":
            atom += sign
            continue
        if atom:
            told = _atom_told(atom)
            if told is None:
                return None
            nest[-1].append(told)
            atom = ""
        if sign == "(":
            if len(nest) > MAX_NEST:
                return None
            nest.append([])
        elif sign == ")" and len(nest) > 1:
            items = tuple(nest.pop())
            nest[-1].append(items)
    return nest[0][0] if nest[0] else None


def _atom_told(text):
    """Return the word, or the integer, of which text is the text, None if there is none."""
    if is_word(text):
        return text
    number = read_integer(text)
    return number if is_between(number, -MAX_NUMBER, MAX_NUMBER) else None
