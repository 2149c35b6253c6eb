"""Benches: shelves of rows that edits change, and that can be taken back."""

from latewires.bounds import MAX_EDITS
from latewires.errors import NothingToRedo, NothingToUndo, NoVersion, TooManyEdits, WireError
from latewires.kinds import is_between
from latewires.orders import lies_within
from latewires.shelves import edited, row_named
from latewires.walks import form


class Bench:
    """A shelf of rows, the edits that led to it, and those that were taken back."""

    def __init__(self):
        # Pairs of an edit and the shelf behind it; of those taken back the last one was taken back last.
        self._standing = ()
        self._taken_back = ()
        self._shelf = ()
        self._names = ()
        # The form of each row that one was made for.
        self._forms = {}

    @property
    def shelf(self):
        """The shelf: the ascending tuple of the pairs of each name and its row."""
        return self._shelf

    @property
    def version(self):
        """How many edits stand."""
        return len(self._standing)

    @property
    def log(self):
        """The tuple of the edits that stand, in order."""
        return tuple([edit for edit, _ in self._standing])

    @property
    def made(self):
        """How many forms were made."""
        return len(self._forms)

    def __len__(self):
        return len(self._names)

    def __contains__(self, value):
        return value in self._names

    def __getitem__(self, name):
        return row_named(self._shelf, name)

    def __iter__(self):
        return iter(self._names)

    def __eq__(self, other):
        return isinstance(other, Bench) and self._shelf == other._shelf

    def keep(self, name, row):
        """Let name, with row, come to the shelf; return the new version."""
        return self._edit(("keep", name, row))

    def drop(self, name):
        """Let name go, with its row; return the new version."""
        return self._edit(("drop", name))

    def put(self, name, place, part):
        """Put part at this place of the row of name; return the new version."""
        return self._edit(("put", name, place, part))

    def take(self, name, place):
        """Let the part at this place of the row of name go; return the new version."""
        return self._edit(("take", name, place))

    def link(self, name, other, fresh):
        """Let fresh come to the shelf, with the rows of name and other one behind the other; return the new version."""
        return self._edit(("link", name, other, fresh))

    def batch(self, edits):
        """Do edits, tuples of a word and its arguments, as one edit; return the new version."""
        return self._edit(("batch", edits))

    def form_of(self, name):
        """Return the form of the row of name."""
        return self._form(self[name])

    def same(self, name, other):
        """Return whether the rows of both names are alike."""
        first, second = self._forms_of(name, other)
        return first == second

    def inside(self, name, other):
        """Return whether the row of name lies within that of other."""
        first, second = self._forms_of(name, other)
        return lies_within(first, second)

    def undo(self):
        """Take back the last edit that stands; return the version then."""
        if not self._standing:
            raise NothingToUndo()
        return self._go_to(self._standing[:-1], self._taken_back + self._standing[-1:])

    def redo(self):
        """Do the edit again that was taken back last; return the version then."""
        if not self._taken_back:
            raise NothingToRedo()
        return self._go_to(self._standing + self._taken_back[-1:], self._taken_back[:-1])

    def at(self, version):
        """Return the shelf when so many edits stood, of those that stand now."""
        if not is_between(version, 0, len(self._standing)):
            raise NoVersion(version)
        return _shelf_behind(self._standing[:version])

    def copy(self):
        """Return a bench that is as this one is; neither changes with the other."""
        bench = Bench()
        bench._go_to(self._standing, self._taken_back)
        bench._forms = {row: self._forms[row] for row in self._forms}
        return bench

    def attempt(self, work):
        """Return work(self); if it raises an error of this package all edits are as they were ahead of it."""
        standing, taken_back = self._standing, self._taken_back
        try:
            return work(self)
        except WireError:
            self._go_to(standing, taken_back)
            raise

    def _edit(self, edit):
        """Do an edit, which forgets those that were taken back; return the new version."""
        shelf = edited(self._shelf, edit)
        if len(self._standing) >= MAX_EDITS:
            raise TooManyEdits()
        return self._go_to(self._standing + ((edit, shelf),), ())

    def _go_to(self, standing, taken_back):
        """Let these edits stand, and these be taken back; return the version then."""
        self._standing = standing
        self._taken_back = taken_back
        self._shelf = _shelf_behind(standing)
        self._names = tuple([name for name, _ in self._shelf])
        return len(standing)

    def _forms_of(self, name, other):
        # Both names are looked for ahead of both forms: none is made if one is missing.
        rows = [self[name], self[other]]
        return [self._form(row) for row in rows]

    def _form(self, row):
        if row not in self._forms:
            self._forms[row] = form(row)
        return self._forms[row]


def _shelf_behind(standing):
    return standing[-1][1] if standing else ()
