"""Shells, line by line, beside lines read by patterns and done by a bench."""

import random
import re
import unittest

from latewires.answers import answer
from latewires.benches import Bench
from latewires.errors import WireError
from latewires.rowtexts import read_row, row_text
from latewires.shells import Shell
from latewires.signaltexts import read_signal, signal_text
from tests.models import long_signal, some_row
from tests.spoiling import spoilt
from tests.values import VALUES

TOP = 10 ** 30
FAR = 10 ** 60
PIECES = {"NAME": "([^ ]+)", "INT": "(0|-?[1-9][0-9]{0,60})", "TEXT": "(.*)"}


def told_of_ask(bench, name, text):
    row = bench[name]
    return signal_text(answer(row, read_signal(text)))


def told_of_form(bench, name):
    is_turned, late_on, late_off, steps = bench.form_of(name)
    pieces = ["turned" if is_turned else "plain", late_on, late_off] + [item for step in steps for item in step]
    return " ".join(str(piece) for piece in pieces)


def put(word):
    return lambda bench, name, place, ticks: bench.put(name, int(place), (word, int(ticks)))


# What each line, as the document shows it, does.
LINES = {
    "keep NAME TEXT": lambda bench, name, text: bench.keep(name, read_row(text)),
    "drop NAME": lambda bench, name: bench.drop(name),
    "put NAME INT on INT": put("on"),
    "put NAME INT off INT": put("off"),
    "put NAME INT delay INT": put("delay"),
    "put NAME INT turn": lambda bench, name, place: bench.put(name, int(place), ("turn",)),
    "take NAME INT": lambda bench, name, place: bench.take(name, int(place)),
    "link NAME NAME NAME": lambda bench, name, other, fresh: bench.link(name, other, fresh),
    "undo": lambda bench: bench.undo(),
    "redo": lambda bench: bench.redo(),
    "names": lambda bench: " ".join(bench) if len(bench) else "none",
    "show NAME": lambda bench, name: row_text(bench[name]),
    "made": lambda bench: str(bench.made),
    "form NAME": told_of_form,
    "same NAME NAME": lambda bench, name, other: "yes" if bench.same(name, other) else "no",
    "inside NAME NAME": lambda bench, name, other: "yes" if bench.inside(name, other) else "no",
    "ask NAME TEXT": told_of_ask,
}
PATTERNS = {}
for shown in LINES:
    PATTERNS[shown] = re.compile(" ".join(PIECES.get(word, word) for word in shown.split(" ")), re.DOTALL)


class Model:
    """A shell as the document tells it."""

    def __init__(self):
        self.bench = Bench()

    def say(self, line):
        if type(line) is not str:
            return "what"
        for shown, pattern in PATTERNS.items():
            found = pattern.fullmatch(line)
            if found:
                try:
                    told = LINES[shown](self.bench, *found.groups())
                except WireError as error:
                    return "error " + type(error).__name__
                return told if type(told) is str else f"version {told}"
        return "what"


def some_text(rng):
    """Return the text of a row, or of none, by a random source."""
    if rng.random() < 0.15:
        return rng.choice(("", " ", "on", "on -1", "on 1,off 2", "none ", "turn\n", "on 01", f"on {TOP + 1}", "turn, turn"))
    return row_text(some_row(rng, rng.randint(0, 5), 4))


def some_line(rng):
    """Return a line by a random source, which often can be done."""
    shown = rng.choice(list(LINES) + ["keep NAME TEXT", "put NAME INT on INT"] * 3)
    pieces = []
    for word in shown.split(" "):
        if word == "NAME":
            word = rng.choice("abcabcabcde") if rng.random() < 0.96 else rng.choice(("none", "A", "x" * 9, "a\n", ""))
        elif word == "INT":
            word = str(rng.randint(-1, 5)) if rng.random() < 0.96 else rng.choice(("-0", "01", "+1", "", str(FAR), str(-FAR)))
        elif word == "TEXT" and shown.startswith("ask"):
            signal = long_signal(rng, rng.randint(0, 4), 6, 4)
            word = signal_text(signal) if rng.random() < 0.9 else rng.choice(("x", "on ", "until 3; since 3", "0 1; 2 1"))
        elif word == "TEXT":
            word = some_text(rng)
        pieces.append(word)
    line = " ".join(pieces)
    return line if rng.random() < 0.95 else rng.choice((" " + line, line + " ", line + "\n", line.upper(), line + " a"))


class TestBesideTheModel(unittest.TestCase):
    def check(self, shell, model, line):
        told = shell.say(line)
        self.assertEqual(told, model.say(line), line)
        self.assertIs(type(told), str)
        return told

    def test_lines(self):
        rng = random.Random(1)
        seen = set()
        for session in range(60):
            shell, model = Shell(), Model()
            for name in "fghijkl" if session % 4 == 0 else ():
                self.check(shell, model, f"keep {name} on 1")
            for place in range(30 if session % 4 == 0 else 0):
                self.check(shell, model, f"put f {place} turn")
            for _ in range(120):
                seen.add(self.check(shell, model, some_line(rng)))
            self.check(shell, model, "names")
        for name in ("Unfit", "BadRow", "BadText", "Taken", "TooMany", "NoName", "TooManyEdits", "NothingToUndo",
                     "NothingToRedo"):
            self.assertIn("error " + name, seen)
        self.assertIn("what", seen)

    def test_spoilt_lines(self):
        ahead = ("keep a on 2, off 1", "keep b turn", "put a 0 delay 3", "undo")
        for line in ("keep c on 1", "drop a", "put a 0 on 3", "put a 1 turn", "take a 0", "link a b c", "undo", "redo", "names",
                     "show a", "made", "form a", "same a b", "inside a b", "ask a 0 3; since 9"):
            shell, model = Shell(), Model()
            for text in ahead:
                self.check(shell, model, text)
            for count, text in enumerate(spoilt(line)):
                self.check(shell, model, text)
                if count % 9 == 0:
                    for _ in range(2):
                        self.check(shell, model, "undo")

    def test_values_of_all_kinds(self):
        shell, model = Shell(), Model()
        self.check(shell, model, "keep a on 1")
        for value in VALUES + [Bench(), ["names"], ("undo",), WireError()]:
            self.check(shell, model, value)
            if type(value) is str:
                for line in (f"keep {value}", f"keep b {value}", f"put a {value} turn", f"put a 0 {value}", f"ask a {value}",
                             f"{value} a", f"show {value}", f"take a {value}", f"link a a {value}"):
                    self.check(shell, model, line)
        self.assertEqual(shell.say("names"), model.say("names"))

    def test_long_lines(self):
        shell, model = Shell(), Model()
        for line in ("x" * 20000, " " * 20000, "keep " * 4000, "keep a " + "on 1, " * 3000, "ask a " + "0 1; " * 3000,
                     "put a " + "9" * 20000 + " turn", "keep " + "a" * 19000 + " turn", "keep a " + "\n" * 9000):
            self.check(shell, model, line)


class TestAShell(unittest.TestCase):
    def says(self, shell, pairs):
        for line, told in pairs:
            self.assertEqual(shell.say(line), told, line)

    def test_a_new_shell(self):
        self.says(Shell(), [("names", "none"), ("made", "0"), ("undo", "error NothingToUndo"), ("redo", "error NothingToRedo"),
                            ("show a", "error NoName"), ("keep a none", "version 1"), ("show a", "none"), ("names", "a")])

    def test_two_shells_beside_each_other(self):
        one, other = Shell(), Shell()
        self.says(one, [("keep a on 1", "version 1"), ("form a", "plain 1 0 drop 1")])
        self.says(other, [("names", "none"), ("made", "0"), ("keep b turn", "version 1"), ("undo", "version 0")])
        self.says(one, [("names", "a"), ("made", "1"), ("redo", "error NothingToRedo")])
        self.says(other, [("redo", "version 1"), ("names", "b"), ("show a", "error NoName")])

    def test_forms_and_answers(self):
        shell = Shell()
        self.says(shell, [
            ("keep a on 2, off 4, on 7, off 1, on 2", "version 1"), ("form a", "plain 11 5 drop 2 fill 2 drop 6"),
            ("put a 5 turn", "version 2"), ("form a", "turned 11 5 drop 2 fill 2 drop 6"), ("keep b delay 7", "version 3"),
            ("form b", "plain 7 7"), ("same a b", "no"), ("inside b b", "yes"), ("inside a b", "no"), ("made", "3"),
            ("ask b 0 3; 9 1; since 12", "7 3; 16 1; since 19"), ("ask b ", ""), ("ask b on", "on"), ("ask a ", "on"),
            ("ask b", "what"), ("ask x x", "error NoName"), ("ask b x", "error BadText"), ("names", "a b")])

    def test_an_answer_with_more_bursts_than_signals_may_have(self):
        shell = Shell()
        bursts, behind = [], 0
        for k in range(100):
            bursts.append((behind, 2 + k % 2, 5, 9))
            behind += 9 * (2 + k % 2) + 8 * 5 + 3
        text = signal_text((None, tuple(bursts), None))
        shell.say("keep a off 3")
        told = shell.say("ask a " + text)
        self.assertEqual(told, signal_text(answer((("off", 3),), (None, tuple(bursts), None))))
        self.assertEqual(len(told.split("; ")), 199)
        self.assertEqual(shell.say("ask a " + told), "error BadText")

    def test_integers(self):
        shell = Shell()
        shell.say("keep a none")
        for text, told in (("0", "version 2"), ("1", "version 3"), ("3", "error Unfit"), ("-1", "error Unfit"), ("-0", "what"),
                           ("00", "what"), ("01", "what"), ("+1", "what"), ("1.0", "what"), ("x", "what"), ("", "what"),
                           ("9" * 61, "error Unfit"), ("-" + "9" * 61, "error Unfit"), ("9" * 62, "what"), ("1\n", "what"),
                           ("- 1", "what"), ("--1", "what"), ("1_0", "what")):
            self.assertEqual(shell.say(f"put a {text} turn"), told, text)
        for text, told in ((str(TOP), "version 4"), (str(TOP + 1), "error BadRow"), ("-1", "error BadRow"), ("9" * 61, "error BadRow"),
                           ("9" * 62, "what"), ("-0", "what"), ("07", "what"), ("0", "version 5")):
            self.assertEqual(shell.say(f"put a 0 on {text}"), told, text)
        self.assertEqual([shell.say(f"take a {text}") for text in ("4", "-1", "9" * 62, "3", "0", "00")],
                         ["error Unfit", "error Unfit", "what", "version 6", "version 7", "what"])

    def test_which_error_comes_first(self):
        shell = Shell()
        self.says(shell, [
            ("keep A on x", "error BadText"), ("keep A on 1", "error Unfit"), ("keep a on 1", "version 1"),
            ("keep a x", "error BadText"), ("keep a turn", "error Taken"), ("keep a" + " " * 2 + "turn", "error BadText"),
            ("keep  a turn", "what"), ("keep a", "what"), ("keep a ", "error BadText"), ("keep", "what"), ("keep ", "what"),
            ("put x 0 on 1", "error NoName"), ("put x 0 on 01", "what"), ("put a 9 on -1", "error Unfit"),
            ("put a 0 on -1", "error BadRow"), ("put a 0", "what"), ("put a 0 turn 1", "what"), ("put a 0 on", "what"),
            ("put a 0 late 1", "what"), ("put a 0 Turn", "what"), ("link a x y", "error NoName"), ("link a a none", "error Unfit"),
            ("link a a a", "error Taken"), ("link a a", "what"), ("link a a b c", "what"), ("same a x", "error NoName"),
            ("made", "0"), ("batch ()", "what"), ("at 0", "what"), ("copy", "what"), ("undo ", "what"), (" undo", "what"),
            ("undo\n", "what"), ("names\n", "what"), ("show a\n", "error NoName"), ("drop a\nb", "error NoName"), ("", "what")])
        for _ in range(39):
            shell.say("put a 0 turn")
        self.says(shell, [("put a 0 turn", "error BadRow"), ("take a 0", "error TooManyEdits"), ("drop a", "error TooManyEdits"),
                          ("undo", "version 39"), ("drop a", "version 40"), ("redo", "error NothingToRedo")])

    def test_too_many_names(self):
        shell = Shell()
        for place, name in enumerate("habcdefg"):
            self.assertEqual(shell.say(f"keep {name} none"), f"version {place + 1}")
        self.says(shell, [("keep i none", "error TooMany"), ("names", "a b c d e f g h"), ("link a b i", "error TooMany")])

    def test_arguments_by_name_and_the_interface(self):
        self.assertEqual(Shell().say(line="names"), "none")
        self.assertIn("say", vars(Shell))
        value = ["names", {}]
        self.assertEqual((Shell().say(value), value), ("what", ["names", {}]))


if __name__ == "__main__":
    unittest.main()
