"""What single ons and offs come to, beside what rows answer to them."""

import itertools
import random
import unittest

from latewires.answers import answer
from latewires.pulses import gap, pulse
from latewires.walks import form
from tests.models import row_strips, scaled_row, signal_of, some_row

TURN = ("turn",)
TOP, FAR = 10 ** 30, 10 ** 60
ON, OFF = (0, (), 0), (None, (), None)
DEEP, BACK = (("on", 2), ("off", 5)), (("on", 2), TURN)
SMALL = [TURN] + [(word, ticks) for word in ("on", "off") for ticks in (1, 2, 3)] + [("delay", 1)]


def seen_in(signal):
    """Return the pair of where, and for how many ticks, signal is on, or off, alone; None if it is always one of them."""
    if signal in (ON, OFF):
        return None
    until, bursts, since = signal
    if until is not None:
        assert bursts == () and since is not None
        return until, since - until
    (tick, ticks, _, times), = bursts
    assert times == 1 and since is None
    return tick, ticks


class TestPulsesAndGaps(unittest.TestCase):
    def check(self, row, ticks):
        for call, signal in ((pulse, (None, ((0, ticks, 0, 1),), None)), (gap, (0, (), ticks))):
            told = call(row, ticks)
            self.assertEqual(told, seen_in(answer(row, signal)), (row, ticks))
            if told is not None:
                self.assertEqual([type(told), type(told[0]), type(told[1])], [tuple, int, int])

    def test_small_rows(self):
        for many in range(4):
            for row in itertools.product(SMALL, repeat=many):
                for ticks in range(1, 9):
                    self.check(row, ticks)

    def test_rows_tick_by_tick(self):
        rng = random.Random(1)
        for _ in range(1500):
            row, ticks = some_row(rng, rng.randint(1, 7), 4), rng.randint(1, 12)
            on = (False, [False] * 6 + [True] * ticks + [False])
            off = (True, [True] * 6 + [False] * ticks + [True])
            self.assertEqual(pulse(row, ticks), seen_in(signal_of(row_strips(row, on)[-1])))
            self.assertEqual(gap(row, ticks), seen_in(signal_of(row_strips(row, off)[-1])))

    def test_at_most_dropped_and_most_filled(self):
        rng = random.Random(2)
        for most in (4, TOP):
            for _ in range(300):
                row = some_row(rng, rng.randint(0, 40), most)
                is_turned, late_on, late_off, steps = form(row)
                drop = max([k for word, k in steps if word == "drop"], default=0)
                fill = max([k for word, k in steps if word == "fill"], default=0)
                if drop > 0:
                    self.assertIsNone(pulse(row, drop))
                if fill > 0:
                    self.assertIsNone(gap(row, fill))
                self.assertEqual(pulse(row, drop + 1), (late_on, drop + 1 - late_on + late_off))
                self.assertEqual(gap(row, fill + 1), (late_off, fill + 1 - late_off + late_on))
                for ticks in {1, max(1, drop - 1), drop + 1, drop + 2, max(1, fill - 1), fill + 1, fill + 2, FAR}:
                    self.check(row, ticks)

    def test_great_ticks(self):
        rng = random.Random(3)
        for _ in range(200):
            row = scaled_row(some_row(rng, 6, 5), TOP // 5)
            for ticks in (1, TOP, 2 * TOP, 3 * TOP + 1, 40 * TOP, FAR - 1, FAR):
                self.check(row, ticks)
        self.assertEqual(pulse((("delay", TOP),) * 40, FAR), (40 * TOP, FAR))
        self.assertEqual(gap((("on", TOP),) * 40, FAR), (0, FAR + 40 * TOP))
        self.assertIsNone(pulse((("on", TOP),) * 40, 40 * TOP))
        self.assertEqual(pulse((("on", TOP),) * 40, 40 * TOP + 1), (40 * TOP, 1))
        self.assertIsNone(gap((("off", TOP),) * 40, 40 * TOP))
        self.assertEqual(gap((("off", TOP),) * 40, 40 * TOP + 1), (40 * TOP, 1))

    def test_turned_rows(self):
        self.assertEqual([pulse(BACK, ons) for ons in (1, 2, 3, 4)], [None, None, (2, 1), (2, 2)])
        self.assertEqual([gap(BACK, offs) for offs in (1, 2)], [(0, 3), (0, 4)])
        self.assertEqual([pulse((TURN,), 5), gap((TURN,), 5)], [(0, 5), (0, 5)])
        self.assertEqual([pulse((TURN, ("on", 3)), ons) for ons in (1, 9)], [(0, 4), (0, 12)])
        self.assertEqual([gap((TURN, ("on", 3)), offs) for offs in (3, 4)], [None, (3, 1)])


class TestConventions(unittest.TestCase):
    def test_arguments_by_name(self):
        self.assertEqual(pulse(row=DEEP, ons=3), (2, 6))
        self.assertEqual(gap(row=DEEP, offs=4), (5, 1))

    def test_equal_calls_get_equal_results_and_change_nothing(self):
        rng = random.Random(4)
        for _ in range(60):
            row, ticks = some_row(rng, 6, 4), rng.randint(1, 9)
            ahead = repr(row)
            self.assertEqual(pulse(row, ticks), pulse(row, ticks))
            self.assertEqual(gap(row, ticks), gap(row, ticks))
            self.assertEqual(repr(row), ahead)


if __name__ == "__main__":
    unittest.main()
