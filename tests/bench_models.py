"""A bench as the document tells it, edit by edit: what the tests hold benches against.

Each call of a model returns a pair: ("told", what comes) or ("raised", the
name of the error's class and what it tells, nothing if it tells nothing).
"""

import string

from latewires.orders import alike, within
from latewires.walks import form
from tests.test_interface import ERRORS

EDITS = {"keep": 2, "drop": 1, "put": 3, "take": 2, "link": 3}


class Raised(Exception):
    """An error that a bench would raise."""

    def __init__(self, name, *told):
        super().__init__(name, *told)
        self.told = (name, *told)


def outcome(call, *arguments):
    """Return what a call of the package comes to, as a model tells it."""
    try:
        return "told", call(*arguments)
    except ValueError as error:
        name = type(error).__name__
        argument = ERRORS[name]
        return "raised", (name,) if argument is None else (name, getattr(error, argument))


def is_integer(value):
    return type(value) is int


def is_part(value):
    """Return whether value is a part, as the document says it."""
    if type(value) is not tuple or not value or type(value[0]) is not str:
        return False
    if value[0] == "turn":
        return len(value) == 1
    fits = len(value) == 2 and value[0] in ("on", "off", "delay") and is_integer(value[1])
    return fits and 0 <= value[1] <= 10 ** 30


def row_wrong(value):
    """Return what row_error tells, as the document says it."""
    if type(value) is not tuple or len(value) > 40:
        return "form"
    wrong = [place for place, item in enumerate(value) if not is_part(item)]
    return ("part", wrong[0]) if wrong else None


def is_name(value):
    """Return whether value is a name, as the document says it."""
    if type(value) is not str or value == "none":
        return False
    return 1 <= len(value) <= 8 and set(value) <= set(string.ascii_lowercase)


class Model:
    """What a bench is, told by plain dicts."""

    def __init__(self):
        self.rows = {}
        self.edits = []
        self.ahead = []
        self.gone = []
        self.forms = []

    def shelf(self):
        return tuple((name, self.rows[name]) for name in sorted(self.rows))

    def copy(self):
        other = Model()
        other.rows, other.edits, other.ahead = dict(self.rows), list(self.edits), list(self.ahead)
        other.gone, other.forms = list(self.gone), list(self.forms)
        return other

    def row(self, name):
        if type(name) is not str or name not in self.rows:
            raise Raised("NoName", name)
        return self.rows[name]

    def keep(self, name, row):
        if not is_name(name):
            raise Raised("Unfit")
        self.set_row(name, row, fresh=True)

    def set_row(self, name, row, fresh):
        if row_wrong(row) is not None:
            raise Raised("BadRow", row_wrong(row))
        if fresh and name in self.rows:
            raise Raised("Taken", name)
        if fresh and len(self.rows) == 8:
            raise Raised("TooMany", 8)
        self.rows = {**self.rows, name: row}

    def drop(self, name):
        self.row(name)
        self.rows = {other: row for other, row in self.rows.items() if other != name}

    def put(self, name, place, part):
        row = list(self.row(name))
        if not is_integer(place) or not 0 <= place <= len(row):
            raise Raised("Unfit")
        row.insert(place, part)
        self.set_row(name, tuple(row), fresh=False)

    def take(self, name, place):
        row = list(self.row(name))
        if not is_integer(place) or not 0 <= place < len(row):
            raise Raised("Unfit")
        del row[place]
        self.set_row(name, tuple(row), fresh=False)

    def link(self, name, other, fresh):
        self.keep(fresh, self.row(name) + self.row(other))

    def batch(self, edits):
        if type(edits) is not tuple or len(edits) > 12:
            raise Raised("BadBatch")
        for edit in edits:
            if type(edit) is not tuple or not edit or type(edit[0]) is not str or len(edit) != EDITS.get(edit[0], -9) + 1:
                raise Raised("BadBatch")
        for index, edit in enumerate(edits):
            try:
                getattr(self, edit[0])(*edit[1:])
            except Raised:
                raise Raised("Rejected", index)

    def do(self, word, *arguments):
        """Do an edit, undo, redo, at or one of the asks."""
        rows = self.rows
        try:
            if word in EDITS or word == "batch":
                getattr(self, word)(*arguments)
                if len(self.edits) == 40:
                    raise Raised("TooManyEdits")
                self.ahead.append(rows)
                self.edits.append((word, *arguments))
                self.gone = []
                return "told", len(self.edits)
            return "told", getattr(self, "do_" + word)(*arguments)
        except Raised as error:
            self.rows = rows
            return "raised", error.told

    def do_undo(self):
        if not self.edits:
            raise Raised("NothingToUndo")
        self.gone.append((self.edits.pop(), self.rows))
        self.rows = self.ahead.pop()
        return len(self.edits)

    def do_redo(self):
        if not self.gone:
            raise Raised("NothingToRedo")
        edit, rows = self.gone.pop()
        self.edits.append(edit)
        self.ahead.append(self.rows)
        self.rows = rows
        return len(self.edits)

    def do_at(self, version):
        if not is_integer(version) or not 0 <= version <= len(self.edits):
            raise Raised("NoVersion", version)
        rows = (self.ahead + [self.rows])[version]
        return tuple((name, rows[name]) for name in sorted(rows))

    def had(self, *names):
        rows = [self.row(name) for name in names]
        for row in rows:
            if row not in self.forms:
                self.forms.append(row)
        return rows

    def do_form_of(self, name):
        return form(*self.had(name))

    def do_same(self, name, other):
        return alike(*self.had(name, other))

    def do_inside(self, name, other):
        return within(*self.had(name, other))
