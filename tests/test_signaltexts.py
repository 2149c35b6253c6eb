"""The texts of signals."""

import random
import re
import unittest

from latewires.errors import BadText, WireError
from latewires.signals import signal_error
from latewires.signaltexts import read_signal, signal_text
from tests.models import all_strips, signal_of, train_strip
from tests.spoiling import spoilt

TOP = 10 ** 60
SOME = (3, ((5, 2, 3, 4), (40, 1, 0, 1)), 90)
INTEGER = "(0|-?[1-9][0-9]*)"


def plainly_read(text):
    """Return the signal of which text is the text, None if there is none, read by patterns."""
    if text == "on":
        return (0, (), 0)
    burst = f"{INTEGER} {INTEGER}( {INTEGER} {INTEGER})?"
    pieces = text.split("; ") if text else []
    until = since = None
    bursts = []
    for place, piece in enumerate(pieces):
        if place == 0 and re.fullmatch(f"until {INTEGER}", piece):
            until = int(piece[6:])
        elif place == len(pieces) - 1 and re.fullmatch(f"since {INTEGER}", piece):
            since = int(piece[6:])
        elif re.fullmatch(burst, piece):
            numbers = [int(word) for word in piece.split(" ")]
            if len(numbers) == 4 and numbers[3] == 1:
                return None
            bursts.append(tuple(numbers if len(numbers) == 4 else numbers + [0, 1]))
        else:
            return None
    signal = (until, tuple(bursts), since)
    return signal if signal_error(signal) is None and signal != (0, (), 0) else None


class TestTexts(unittest.TestCase):
    def check(self, signal, text):
        with self.subTest(text=text[:80]):
            self.assertEqual(signal_text(signal), text)
            self.assertEqual(read_signal(text), signal)

    def test_ordinary_signals(self):
        self.check(SOME, "until 3; 5 2 3 4; 40 1; since 90")
        self.check((None, ((-5, 2, 0, 1),), None), "-5 2")
        self.check((None, ((-5, 2, 1, 2),), None), "-5 2 1 2")
        self.check((-3, (), None), "until -3")
        self.check((0, (), None), "until 0")
        self.check((None, (), 0), "since 0")
        self.check((None, (), -12), "since -12")
        self.check((-1, (), 1), "until -1; since 1")
        self.check((None, ((0, 1, 0, 1), (2, 2, 0, 1)), 5), "0 1; 2 2; since 5")

    def test_always_off_and_always_on(self):
        self.check((None, (), None), "")
        self.check((0, (), 0), "on")

    def test_signals_at_the_bounds(self):
        self.check((-TOP, (), TOP), f"until -{TOP}; since {TOP}")
        self.check((None, ((-TOP, TOP, TOP, TOP),), None), f"-{TOP} {TOP} {TOP} {TOP}")
        many = tuple((10 * k, 1 + k % 2, 0, 1) for k in range(100))
        self.check((None, many, None), "; ".join(f"{10 * k} {1 + k % 2}" for k in range(100)))

    def test_small_signals_go_and_come_back(self):
        texts = set()
        strips = list(all_strips(9))
        for strip in strips:
            signal = signal_of(strip)
            text = signal_text(signal)
            self.assertEqual(read_signal(text), signal)
            self.assertEqual(plainly_read(text), signal)
            texts.add(text)
        self.assertEqual(len(texts), len(strips))

    def test_trains_go_and_come_back(self):
        rng = random.Random(3)
        for _ in range(200):
            signal = signal_of(train_strip(rng, rng.randint(0, 9)))
            self.assertEqual(read_signal(signal_text(signal)), signal)

    def test_the_texts_of_signals_beyond_the_bounds(self):
        many = tuple((10 * k, 1 + k % 2, 0, 1) for k in range(101))
        text = signal_text((None, many, None))
        self.assertEqual(text, "; ".join(f"{10 * k} {1 + k % 2}" for k in range(101)))
        self.assertRaises(BadText, read_signal, text)
        for signal in ((10 * TOP, (), None), (None, ((-TOP - 1, TOP + 1, 3 * TOP, 7 * TOP),), 10 ** 130)):
            text = signal_text(signal)
            self.assertEqual([int(word) for word in re.findall("-?[0-9]+", text)],
                             [number for number in (signal[0], *sum(signal[1], ()), signal[2]) if number is not None])
            self.assertRaises(BadText, read_signal, text)


class TestSpoiltTexts(unittest.TestCase):
    def check(self, *texts):
        for text in texts:
            with self.subTest(text=text):
                with self.assertRaises(WireError) as caught:
                    read_signal(text)
                self.assertIs(type(caught.exception), BadText)

    def test_blanks(self):
        self.check(" ", " 5 2", "5 2 ", "5  2", "5 2;40 1", "5 2 ;40 1", "5 2;  40 1", "5 2 ; 40 1", "until  3")
        self.check("until3", "until 3 ", " until 3", "since", "since ", "until ", "on ", " on", "5 2\n", "\n", "5\n2")
        self.check("5\t2", "until\n3")

    def test_separators(self):
        self.check("5 2; ", "; 5 2", "5 2; ; 40 1", ";", "; ", "5 2, 40 1", "5 2;", "5 2. 40 1", "until 3;", "until 3; ")

    def test_signs(self):
        self.check("+5 2", "5 +2", "--5 2", "-0 2", "- 5 2", "5 -2", "5 2 -1 2", "5 2 1 -2", "until +3", "until -0")
        self.check("until --3", "5- 2", "5_0 2", "5.0 2", "0x5 2", "1e3 2", "since -", "-")

    def test_noughts_ahead(self):
        self.check("05 2", "5 02", "00 2", "-05 2", "until 03", "until 00", "since -03", "5 2 01 2", "5 2 1 02")

    def test_figures_of_other_scripts(self):
        self.check("\u0665 2", "until \u0663", "5 \u00b2", "5\u00a02")

    def test_pieces_exchanged(self):
        self.check("since 90; until 3", "5 2; until 3", "since 90; 5 2", "40 1; 5 2", "until 3; until 4; 9 1")
        self.check("since 3; since 9", "5 2; until 3; 40 1", "5 2; since 30; 40 1", "on; on", "until 3; on", "on; 5 2")

    def test_off_and_times(self):
        self.check("5 2 0 1", "5 2 1 1", "5 2 0 2", "5 2 3 0", "5 2 3 1", "5 2 3", "5 2 0", "5", "5 2 3 4 5", "5 2 3 4 ")

    def test_bursts_of_nothing(self):
        self.check("5 0", "5 0 1 2")

    def test_bursts_too_near(self):
        self.check("5 2; 7 1", "5 2; 6 1", "5 2; 4 1", "5 2; 5 2", "until 5; 5 1", "until 5; 4 1", "5 2; since 7")
        self.check("5 2; since 6", "until 5; since 5", "until 5; since 4", "5 2 3 4; 22 1", "5 2 3 4; since 22")

    def test_always_on_told_otherwise(self):
        self.check("until 0; since 0", "until 3; since 3", "On", "ON", "off", "none", "always")

    def test_told_in_another_way(self):
        self.check("0 1; 2 1", "0 1 1 2; 4 1", "0 1; 9 1 1 2", "0 1 1 2; 4 1 1 2", "0 1 1 2; 4 1 3 2")
        self.assertEqual(read_signal("0 1 1 2; 5 1 1 2"), (None, ((0, 1, 1, 2), (5, 1, 1, 2)), None))

    def test_words(self):
        self.check("Until 3", "UNTIL 3", "till 3", "from 3", "since three", "until None", "None", "until", "5 two")
        self.check("(None, (), None)", "until 3 since 9")

    def test_bounds_gone_beyond(self):
        self.check(f"until {TOP + 1}", f"until -{TOP + 1}", f"since {TOP + 1}", f"{TOP + 1} 1", f"-{TOP + 1} 1")
        self.check(f"0 {TOP + 1}", f"0 1 {TOP + 1} 2", f"0 1 1 {TOP + 1}", f"{10 * TOP} 1")
        self.check("; ".join(f"{10 * k} {1 + k % 2}" for k in range(101)))
        self.check("9" * 20000, "-" + "9" * 19999, "until " + "1" * 5000, "5 " + "1" * 5000, "-" * 20000)
        self.check("0" * 62 + " 1", " " * 20000, "; " * 10000)

    def test_what_is_no_string(self):
        self.check(None, True, 0, 5, (), [], {}, SOME, ("",), ["on"], (0, (), 0), (None, (), None), 10 ** 400)
        self.check({"on": 1}, BadText(), ("until 3",))

    def test_all_that_is_near_some_texts(self):
        texts = ["until 3; 5 2 3 4; 40 1; since 90", "0 1 1 1000", "until -10; 0 7", "on", "", "since 0", "5 1; 8 2"]
        read = spoilt_ones = 0
        for text in texts:
            for other in spoilt(text):
                expected = plainly_read(other)
                if expected is None:
                    spoilt_ones += 1
                    self.assertRaises(BadText, read_signal, other)
                else:
                    read += 1
                    self.assertEqual(read_signal(other), expected)
        self.assertGreater(read, 100)
        self.assertGreater(spoilt_ones, 1000)


class TestConventions(unittest.TestCase):
    def test_arguments_by_name(self):
        self.assertEqual(signal_text(signal=SOME), "until 3; 5 2 3 4; 40 1; since 90")
        self.assertEqual(read_signal(value="until 3; 5 2 3 4; 40 1; since 90"), SOME)

    def test_kinds(self):
        until, bursts, since = read_signal("until 3; 5 2; 40 1 1 2; since 90")
        self.assertIs(type(bursts), tuple)
        for number in (until, since, *bursts[0], *bursts[1]):
            self.assertIs(type(number), int)

    def test_what_is_handed_in_is_not_changed(self):
        value = ["until 3", ["5 2"]]
        self.assertRaises(BadText, read_signal, value)
        self.assertEqual(value, ["until 3", ["5 2"]])


if __name__ == "__main__":
    unittest.main()
