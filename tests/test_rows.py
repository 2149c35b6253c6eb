"""Rows: what is one, and their texts."""

import itertools
import random
import re
import unittest

from latewires.errors import BadText, Unfit, WireError
from latewires.rows import row_error
from latewires.rowtexts import read_row, row_text
from tests.models import some_row
from tests.spoiling import spoilt

TOP = 10 ** 30
ROW = (("on", 3), ("off", 5), ("delay", 2), ("on", 1))

WRONG_PARTS = [
    None, True, 0, "", "on", "on 3", "turn", (), [], {}, ("on",), ("off",), ("delay",), ("turn", 0), ("turn", None),
    ("turn", "turn"), ("on", 3, 3), ("delay", 1, 2), ["turn"], ["on", 3], {"on": 3}, (("on", 3),), (("turn",),),
    ("on", -1), ("off", -1), ("delay", -1), ("on", TOP + 1), ("off", TOP + 1), ("delay", TOP + 1), ("on", 10 ** 400),
    ("on", True), ("off", False), ("delay", True), ("on", None), ("on", "3"), ("on", (3,)), ("on", [3]), ("off", {}),
    ("late", 2), ("On", 2), ("ON", 2), ("on ", 2), ("", 2), ("turn ",), ("Turn",), ("",), (None, 2), (True, 2),
    (0, 2), (2, "on"), (["on"], 2), (("on",), 2), ({}, 2), ("o", 2), ("delay off", 2), (None,), (1,), (Unfit(),),
    (Unfit(), 2), ("on", Unfit()),
]


class TestRowError(unittest.TestCase):
    def test_rows(self):
        for row in (ROW, (), (("turn",),), (("on", 0),), (("off", 0),), (("delay", 0),), (("turn",), ("turn",))):
            self.assertIsNone(row_error(row))

    def test_ticks_at_the_bounds(self):
        for word in ("on", "off", "delay"):
            self.assertIsNone(row_error(((word, 0), (word, TOP))))
            self.assertEqual(row_error(((word, 0), (word, TOP + 1))), ("part", 1))
            self.assertEqual(row_error(((word, TOP), (word, -1))), ("part", 1))

    def test_how_many_parts(self):
        for part in (("turn",), ("on", 1), ("delay", TOP)):
            self.assertIsNone(row_error((part,) * 40))
            self.assertEqual(row_error((part,) * 41), "form")
        self.assertEqual(row_error((None,) * 41), "form")
        self.assertEqual(row_error((None,) * 40), ("part", 0))

    def test_what_is_no_tuple(self):
        for value in (None, True, 0, 40, "", "none", "on 3", [], [("on", 3)], {}, {0: ("on", 3)}, Unfit()):
            with self.subTest(value=value):
                self.assertEqual(row_error(value), "form")

    def test_what_is_no_part(self):
        for item in WRONG_PARTS:
            with self.subTest(item=item):
                self.assertEqual(row_error((item,)), ("part", 0))
                self.assertEqual(row_error((("on", 3), ("turn",), item, ("delay", 0))), ("part", 2))

    def test_the_first_one_is_told(self):
        self.assertEqual(row_error((("on", 3), ("on", -1), None, ("off",))), ("part", 1))

    def test_a_part_by_itself_is_no_row(self):
        self.assertEqual(row_error(("turn",)), ("part", 0))
        self.assertEqual(row_error(("on", 3)), ("part", 0))


def plainly_read(text):
    """Return the row of which text is the text, None if there is none, read by patterns."""
    if text == "none":
        return ()
    row = []
    for piece in text.split(", "):
        match = re.fullmatch("(on|off|delay) (0|[1-9][0-9]*)", piece)
        if match:
            row.append((match[1], int(match[2])))
        elif piece == "turn":
            row.append(("turn",))
        else:
            return None
    return tuple(row) if len(row) <= 40 and all(part[-1] == "turn" or part[1] <= TOP for part in row) else None


class TestTexts(unittest.TestCase):
    def check(self, row, text):
        with self.subTest(text=text[:80]):
            self.assertEqual(row_text(row), text)
            self.assertEqual(read_row(text), row)

    def test_ordinary_rows(self):
        self.check(ROW, "on 3, off 5, delay 2, on 1")
        self.check((), "none")
        self.check((("turn",),), "turn")
        self.check((("turn",), ("on", 0)), "turn, on 0")
        self.check((("off", 0), ("delay", 10), ("turn",), ("turn",)), "off 0, delay 10, turn, turn")

    def test_rows_at_the_bounds(self):
        self.check((("on", TOP),) * 40, ", ".join([f"on {TOP}"] * 40))
        self.check((("turn",),) * 40, ", ".join(["turn"] * 40))
        self.check((("off", TOP), ("delay", TOP - 1)), "off 1" + "0" * 30 + ", delay " + "9" * 30)

    def test_small_rows_go_and_come_back(self):
        parts = [("turn",)] + [(word, ticks) for word in ("on", "off", "delay") for ticks in (0, 1, 2, 10)]
        texts = set()
        rows = [row for many in range(4) for row in itertools.product(parts, repeat=many)]
        for row in rows:
            text = row_text(row)
            self.assertEqual(read_row(text), row)
            self.assertEqual(plainly_read(text), row)
            texts.add(text)
        self.assertEqual(len(texts), len(rows))

    def test_long_rows_go_and_come_back(self):
        rng = random.Random(5)
        for _ in range(100):
            row = some_row(rng, rng.randint(0, 40), rng.choice((3, 10 ** 6, TOP)))
            self.assertEqual(read_row(row_text(row)), row)

    def test_the_texts_of_longer_rows(self):
        self.assertEqual(row_text((("turn",),) * 41), ", ".join(["turn"] * 41))
        self.assertEqual(row_text((("on", TOP + 1), ("off", 10 ** 70))), f"on {TOP + 1}, off {10 ** 70}")


class TestSpoiltTexts(unittest.TestCase):
    def check(self, *texts):
        for text in texts:
            with self.subTest(text=text):
                with self.assertRaises(WireError) as caught:
                    read_row(text)
                self.assertIs(type(caught.exception), BadText)

    def test_blanks_and_commas(self):
        self.check("", " ", "on 3,off 5", "on 3 , off 5", "on 3,  off 5", "on 3, ", ", on 3", "on 3, , off 5", ",", ", ")
        self.check(" on 3", "on 3 ", "on  3", "on3", "on\t3", "on 3\n", "on\n3", "on 3,\noff 5", "on 3; off 5", "turn,turn")
        self.check("on 3,", "none ", " none", "turn ", " turn", "on 3 off 5")

    def test_ticks(self):
        self.check("on 03", "on 00", "on -0", "on -1", "on +3", "on 3.0", "on 1_0", "on 0x3", "on", "on ", "off", "delay")
        self.check("on three", "on 3 3", "delay 007", "off -3", "on 1e3", "on \u0663", "on \u00b3", "on None", "on True")

    def test_words(self):
        self.check("On 3", "ON 3", "late 3", "Turn", "turn 0", "turn 3", "turns", "none, on 3", "on 3, none", "None")
        self.check("none, none", "3 on", "3", "delays 3", "o 3", "()", "(on 3)", "on,3")

    def test_bounds_gone_beyond(self):
        self.check(f"on {TOP + 1}", f"delay {TOP + 1}", f"off {10 * TOP}", ", ".join(["turn"] * 41), "on " + "9" * 61)
        self.check("on " + "9" * 62, "on " + "9" * 19997, "9" * 20000, ", " * 10000, " " * 20000, "on 3" * 5000)
        self.check(", ".join(["on 1"] * 41), "on " + "0" * 100)

    def test_what_is_no_string(self):
        self.check(None, True, 0, 3, (), [], {}, ROW, ("none",), ["turn"], ("turn",), (("turn",),), 10 ** 400, BadText())

    def test_all_that_is_near_some_texts(self):
        read = spoilt_ones = 0
        for text in ("on 3, off 5, delay 2, on 1", "turn, on 0", "none", "turn", f"off {TOP}", "delay 10, turn"):
            for other in spoilt(text):
                expected = plainly_read(other)
                if expected is None:
                    spoilt_ones += 1
                    self.assertRaises(BadText, read_row, other)
                else:
                    read += 1
                    self.assertEqual(read_row(other), expected)
        self.assertGreater(read, 100)
        self.assertGreater(spoilt_ones, 1000)


class TestConventions(unittest.TestCase):
    def test_arguments_by_name(self):
        self.assertIsNone(row_error(value=ROW))
        self.assertEqual(row_text(row=ROW), "on 3, off 5, delay 2, on 1")
        self.assertEqual(read_row(value="on 3, off 5, delay 2, on 1"), ROW)

    def test_kinds(self):
        row = read_row("on 3, turn, delay 0")
        self.assertIs(type(row), tuple)
        self.assertEqual([type(part) for part in row], [tuple] * 3)
        self.assertEqual([type(row[0][1]), type(row[2][1])], [int, int])

    def test_what_is_handed_in_is_not_changed(self):
        for value in ([["on", 3]], (["turn"],), {"on": [3]}):
            ahead = repr(value)
            row_error(value)
            self.assertRaises(BadText, read_row, value)
            self.assertEqual(repr(value), ahead)


if __name__ == "__main__":
    unittest.main()
