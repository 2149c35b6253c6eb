"""Shells: benches that are told, and asked, by lines."""

from latewires.answers import answer
from latewires.benches import Bench
from latewires.errors import WireError
from latewires.numerals import read_integer
from latewires.rows import TURN
from latewires.rowtexts import read_row, row_text
from latewires.signaltexts import read_signal, signal_text


class Shell:
    """A bench of its own, and what it says to lines."""

    def __init__(self):
        self._bench = Bench()

    def say(self, line):
        """Return what there is to say to line, any value."""
        if not isinstance(line, str):
            return "what"
        words = _words(line)
        try:
            version = self._version_behind(words)
            told = self._told(words) if version is None else f"version {version}"
        except WireError as error:
            return "error " + type(error).__name__
        return "what" if told is None else told

    def _version_behind(self, words):
        """Return the version behind what words tell to do, None if they tell nothing to do."""
        bench = self._bench
        match words:
            case ["keep", name, text]:
                return bench.keep(name, read_row(text))
            case ["drop", name]:
                return bench.drop(name)
            case ["put", name, text, *told]:
                place, part = read_integer(text), _part_told(told)
                return None if place is None or part is None else bench.put(name, place, part)
            case ["take", name, text]:
                place = read_integer(text)
                return None if place is None else bench.take(name, place)
            case ["link", name, other, fresh]:
                return bench.link(name, other, fresh)
            case ["undo"]:
                return bench.undo()
            case ["redo"]:
                return bench.redo()
        return None

    def _told(self, words):
        """Return what there is to say to words that ask, None if they ask nothing."""
        bench = self._bench
        match words:
            case ["names"]:
                return " ".join(list(bench)) if len(bench) > 0 else "none"
            case ["show", name]:
                return row_text(bench[name])
            case ["made"]:
                return str(bench.made)
            case ["form", name]:
                return _form_text(bench.form_of(name))
            case ["same", name, other]:
                return _yes_or_no(bench.same(name, other))
            case ["inside", name, other]:
                return _yes_or_no(bench.inside(name, other))
            case ["ask", name, text]:
                row = bench[name]
                return signal_text(answer(row, read_signal(text)))
        return None


def _words(line):
    """Return the list of the words of line, with any text last where one is told; [] if another word is empty."""
    words = line.split(" ")
    if words[0] in ("keep", "ask") and len(words) > 2:
        words = words[:2] + [" ".join(words[2:])]
        return words if words[1] else []
    return [] if "" in words else words


def _part_told(words):
    """Return the part that words tell, None if they tell none; its ticks may be beyond what parts have."""
    if words == ["turn"]:
        return TURN
    if len(words) != 2 or words[0] not in ("on", "off", "delay"):
        return None
    ticks = read_integer(words[1])
    return None if ticks is None else (words[0], ticks)


def _form_text(shape):
    is_turned, late_on, late_off, steps = shape
    words = ["turned" if is_turned else "plain", str(late_on), str(late_off)]
    for word, number in steps:
        words.extend([word, str(number)])
    return " ".join(words)


def _yes_or_no(holds):
    return "yes" if holds else "no"
