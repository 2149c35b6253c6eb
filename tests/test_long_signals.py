"""Signals of up to a hundred bursts, and of more, through timers and turns."""

import itertools
import random
import unittest

from latewires.answers import answer, answers
from latewires.changes import turned
from latewires.meanings import meant
from latewires.signals import is_on, on_ticks, signal_error
from latewires.signaltexts import read_signal, signal_text
from latewires.walks import form
from tests.models import edges_of, is_told_in_one_way, long_signal, signal_of, some_row, row_strips, train_strip

TURN = ("turn",)
TOP = 10 ** 30


def is_on_by_part(part, signal, tick):
    """Return whether what a part makes of signal is on at tick, by counting how many ticks signal is on."""
    if part == TURN:
        return not is_on(signal, tick)
    word, ticks = part
    if word == "delay":
        return is_on(signal, tick - ticks)
    many = on_ticks(signal, tick - ticks, tick)
    return many == ticks + 1 if word == "on" else many > 0


class TestLongSignals(unittest.TestCase):
    def check(self, row, signal):
        """Hold each part's answer against a count of the ticks at which what is ahead of it is on."""
        rng = random.Random(0)
        ahead = signal
        for part, after in zip(row, answers(row, signal)):
            self.assertTrue(is_told_in_one_way(after), (part, ahead))
            self.assertLessEqual(len(after[1]), 2 * len(ahead[1]) + 1)
            reach = part[1] if part != TURN else 0
            edges = edges_of(ahead) + edges_of(after)
            for edge in rng.sample(edges, min(len(edges), 60)):
                for tick in (edge - 1, edge, edge + reach):
                    self.assertEqual(is_on(after, tick), is_on_by_part(part, ahead, tick), (part, ahead, tick))
            ahead = after

    def test_a_hundred_bursts(self):
        rng = random.Random(1)
        for most, many in ((6, 4), (6, TOP), (TOP, 1), (TOP, 3), (TOP, 10 ** 27)):
            for _ in range(4):
                signal = long_signal(rng, 100, most, many)
                self.assertIsNone(signal_error(signal))
                self.assertEqual(read_signal(signal_text(signal)), signal)
                self.check(some_row(rng, 6, most // 2), signal)

    def test_fewer_and_more_bursts(self):
        rng = random.Random(2)
        for bursts in (0, 1, 2, 7, 33, 99, 101, 200, 350):
            for most, many in ((5, 3), (9, TOP), (TOP, 10 ** 25)):
                signal = long_signal(rng, bursts, most, many)
                self.assertTrue(is_told_in_one_way(signal))
                self.assertEqual(signal_error(signal), None if bursts <= 100 else "form")
                self.check(some_row(rng, 4, most), signal)
                self.check(some_row(rng, 8, 2, ("on", "off", "turn")), signal)

    def test_tick_by_tick(self):
        rng = random.Random(3)
        for pieces in (60, 100, 160):
            for _ in range(4):
                row, strip = some_row(rng, 6, 3), train_strip(rng, pieces)
                self.assertEqual(answers(row, signal_of(strip)), tuple(signal_of(after) for after in row_strips(row, strip)))

    def test_answers_handed_in_again(self):
        rng = random.Random(4)
        for most, many in ((6, 4), (6, TOP), (TOP, TOP)):
            for bursts in (40, 100, 180):
                one, other = some_row(rng, 7, most // 2), some_row(rng, 7, most // 2)
                signal = long_signal(rng, bursts, most, many)
                after = answer(one, signal)
                self.assertEqual(answer(other, after), answer(one + other, signal))
                self.assertEqual(meant(form(other), after), answer(other, after))
                self.assertEqual(turned(turned(after)), after)

    def test_answers_with_more_bursts_than_signals_may_have(self):
        # Each train's first and last on joins what is beside it, the others stay: more bursts than a hundred.
        bursts = []
        behind = 0
        for k in range(100):
            bursts.append((behind, 2 + k % 2, 5, 9))
            behind += 9 * (2 + k % 2) + 8 * 5 + 3
        signal = (None, tuple(bursts), None)
        self.assertIsNone(signal_error(signal))
        self.assertEqual(len(answer((TURN,), signal)[1]), 199)
        row = (("off", 3),)
        after = answer(row, signal)
        self.assertEqual(len(after[1]), 199)
        self.assertEqual(signal_error(after), "form")
        self.check(row, signal)
        for more in ((("on", 1), TURN, ("off", 4)), (TURN, TURN), (("delay", TOP), ("off", 2), ("on", 9))):
            self.assertEqual(answer(more, after), answer(row + more, signal))
            self.check(more, after)

    def test_forty_parts(self):
        rng = random.Random(5)
        for words in (("on", "off"), ("on", "off", "turn"), ("on", "off", "delay", "turn")):
            for most, many in ((40, 6), (TOP, TOP)):
                row, signal = some_row(rng, 40, max(1, most // 40), words), long_signal(rng, 100, most, many)
                self.check(row, signal)
                self.assertEqual(answer(row, signal), meant(form(row), signal))

    def test_numbers_of_sixty_figures(self):
        far = 10 ** 60
        signal = (-far, ((-far + 1, 10 ** 59, 7, 3), (1, far, 0, 1)), None)
        self.assertIsNone(signal_error(signal))
        for row in itertools.product([("on", TOP), ("off", TOP), ("off", 7), TURN], repeat=3):
            self.check(row, signal)
        signal = (None, ((-far, far, far, far),), None)
        self.assertIsNone(signal_error(signal))
        for row in ((("on", TOP),) * 40, (TURN, ("on", 1), ("off", TOP)), (("off", TOP),) * 3 + (TURN,)):
            self.check(row, signal)


if __name__ == "__main__":
    unittest.main()
