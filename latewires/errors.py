"""The errors that this package raises: each one stands directly under WireError."""


class WireError(ValueError):
    """What all errors of this package are."""


class Unfit(WireError):
    """A name, a place or another argument does not fit."""


class BadText(WireError):
    """A value is the text of nothing that was to be read."""


class BadRow(WireError):
    """A value is no row; error tells why."""

    def __init__(self, error):
        self.error = error


class BadForm(WireError):
    """A value is the form of no row; error tells why."""

    def __init__(self, error):
        self.error = error


class NoRow(WireError):
    """There is no row of the kind that is asked for."""


class TooMany(WireError):
    """More is asked for than limit lets."""

    def __init__(self, limit):
        self.limit = limit


class NoName(WireError):
    """A shelf does not have the name given."""

    def __init__(self, given):
        self.given = given


class Taken(WireError):
    """A shelf has the name given already."""

    def __init__(self, given):
        self.given = given


class BadBatch(WireError):
    """A value is no batch of edits."""


class Rejected(WireError):
    """The edit at index of a batch raised an error."""

    def __init__(self, index):
        self.index = index


class TooManyEdits(WireError):
    """As many edits stand as may stand."""


class NothingToUndo(WireError):
    """No edit stands that could be taken back."""


class NothingToRedo(WireError):
    """No edit was taken back that could be done again."""


class NoVersion(WireError):
    """A bench had no version as given."""

    def __init__(self, given):
        self.given = given


class BadLog(WireError):
    """The line or the edit at place of a log does not hold."""

    def __init__(self, place):
        self.place = place
