"""What rows answer to signals, beside a count tick by tick."""

import itertools
import random
import unittest

from latewires.answers import answer, answers
from latewires.signals import is_on, on_ticks, signal_error
from tests.models import (
    all_strips, moved, row_strips, scaled_row, scaled_signal, signal_of, some_row, strip_at, train_strip,
)

ROW = (("on", 3), ("off", 5), ("delay", 2), ("on", 1))
DOOR = (None, ((0, 6, 2, 2), (30, 2, 0, 1)), None)
ON, OFF = (0, (), 0), (None, (), None)
GREAT = 10 ** 30
PARTS = [("turn",)] + [(word, ticks) for word in ("on", "off", "delay") for ticks in range(5)]


class TestTickByTick(unittest.TestCase):
    def check(self, row, strip):
        signal = signal_of(strip)
        expected = tuple(signal_of(after) for after in row_strips(row, strip))
        told = answers(row, signal)
        self.assertEqual(told, expected, (row, signal))
        self.assertEqual(answer(row, signal), expected[-1] if expected else signal)
        for after in told:
            if len(after[1]) <= 100:
                self.assertIsNone(signal_error(after), (row, signal))

    def test_each_part_with_each_small_signal(self):
        for strip in all_strips(8):
            for part in PARTS:
                self.check((part,), strip)

    def test_two_parts_with_small_signals(self):
        rng = random.Random(1)
        strips = list(all_strips(8))
        for row in itertools.product(PARTS, repeat=2):
            for strip in rng.sample(strips, 6):
                self.check(row, strip)

    def test_rows_with_trains(self):
        rng = random.Random(2)
        for _ in range(1500):
            self.check(some_row(rng, rng.randint(0, 6), 4), train_strip(rng, rng.randint(0, 7)))

    def test_rows_of_timers_and_turns_with_trains(self):
        rng = random.Random(3)
        for _ in range(600):
            row = some_row(rng, rng.randint(1, 10), 3, ("on", "off", "on", "off", "turn"))
            self.check(row, train_strip(rng, rng.randint(3, 9)))

    def test_more_bursts_than_signals_may_have(self):
        rng = random.Random(4)
        for _ in range(6):
            strip = train_strip(rng, 250)
            self.assertGreater(len(signal_of(strip)[1]), 100)
            self.check(some_row(rng, 5, 2), strip)

    def test_always_on_and_always_off(self):
        rng = random.Random(5)
        for _ in range(200):
            row = some_row(rng, rng.randint(0, 8), 9)
            turns = row.count(("turn",))
            self.assertEqual(answer(row, ON), OFF if turns % 2 else ON)
            self.assertEqual(answer(row, OFF), ON if turns % 2 else OFF)

    def test_endless_ends(self):
        for ticks in range(7):
            self.assertEqual(answer((("on", ticks),), (5, (), None)), (5, (), None))
            self.assertEqual(answer((("off", ticks),), (5, (), None)), (5 + ticks, (), None))
            self.assertEqual(answer((("on", ticks),), (None, (), 5)), (None, (), 5 + ticks))
            self.assertEqual(answer((("off", ticks),), (None, (), 5)), (None, (), 5))
            self.assertEqual(answer((("delay", ticks),), (5, (), 9)), (5 + ticks, (), 9 + ticks))
            self.assertEqual(answer((("on", ticks),), (5, (), 9)), (5, (), 9 + ticks))
            self.assertEqual(answer((("off", ticks),), (5, (), 9)), (5 + ticks, (), 9) if ticks < 4 else ON)
        self.assertEqual(answer((("turn",),), (5, (), None)), (None, (), 5))
        self.assertEqual(answer((("turn",),), (None, (), 5)), (5, (), None))
        self.assertEqual(answer((("turn",),), (5, (), 9)), (None, ((5, 4, 0, 1),), None))

    def test_no_ticks_do_nothing(self):
        for word in ("on", "off", "delay"):
            for signal in (DOOR, ON, OFF, (3, ((5, 2, 3, 4), (40, 1, 0, 1)), 90)):
                self.assertEqual(answer(((word, 0),), signal), signal)


class TestAnswers(unittest.TestCase):
    def test_one_item_for_each_part(self):
        told = answers(ROW, DOOR)
        self.assertIs(type(told), tuple)
        self.assertEqual(len(told), 4)
        self.assertEqual(told, tuple(answer(ROW[:k + 1], DOOR) for k in range(4)))
        self.assertEqual(answers((), DOOR), ())
        self.assertEqual(answer((), DOOR), DOOR)
        self.assertEqual(len(answers((("turn",),) * 40, DOOR)), 40)


class TestGreatNumbers(unittest.TestCase):
    """Where nothing can be gone through tick by tick."""

    def test_as_small_ones(self):
        rng = random.Random(6)
        for by in (10 ** 29, 3 ** 60):
            for _ in range(100):
                row, signal = some_row(rng, 5, 4), signal_of(train_strip(rng, 6))
                great = answers(scaled_row(row, by), scaled_signal(signal, by))
                self.assertEqual(great, tuple(scaled_signal(after, by) for after in answers(row, signal)))

    def test_great_ticks(self):
        ons = (None, ((0, GREAT, 1, 7), (10 ** 32, GREAT + 1, 0, 1)), None)
        self.assertEqual(answer((("on", GREAT),), ons), (None, ((10 ** 32 + GREAT, 1, 0, 1),), None))
        self.assertEqual(answer((("on", GREAT - 1),), ons),
                         (None, ((GREAT - 1, 1, GREAT, 7), (10 ** 32 + GREAT - 1, 2, 0, 1)), None))
        self.assertEqual(answer((("off", GREAT),), (5, (), GREAT + 5)), ON)
        self.assertEqual(answer((("off", GREAT),), (5, (), GREAT + 6)), (GREAT + 5, (), GREAT + 6))
        self.assertEqual(answer((("delay", GREAT),) * 40, DOOR), moved(DOOR, 40 * GREAT))
        self.assertEqual(answer((("off", GREAT),) * 40, (None, ((0, 1, 0, 1),), None)),
                         (None, ((0, 40 * GREAT + 1, 0, 1),), None))

    def test_great_trains(self):
        train = (None, ((7, 3, 5, GREAT),), None)
        end = 7 + 8 * GREAT - 5
        self.assertEqual(answer((("on", 2),), train), (None, ((9, 1, 7, GREAT),), None))
        self.assertEqual(answer((("on", 3),), train), OFF)
        self.assertEqual(answer((("off", 4),), train), (None, ((7, 7, 1, GREAT),), None))
        self.assertEqual(answer((("off", 5),), train), (None, ((7, end + 5 - 7, 0, 1),), None))
        self.assertEqual(answer((("turn",),), train), (7, ((10, 5, 3, GREAT - 1),), end))
        self.assertEqual(answer((("turn",), ("on", 2), ("turn",)), train), (None, ((7, 5, 3, GREAT),), None))
        self.assertEqual(answer((("turn",), ("turn",)), train), train)

    def test_great_trains_between_others(self):
        # The offs of 2 on both sides are filled, those in the train are not: so its first and its last on go.
        signal = (-4, ((-2, 3, 5, GREAT),), 8 * GREAT - 5)
        self.assertEqual(answer((("off", 2),), signal),
                         (3, ((6, 5, 3, GREAT - 2),), 8 * GREAT - 10))
        three = (None, ((0, 1, 4, GREAT), (5 * GREAT - 2, 1, 3, GREAT), (9 * GREAT - 2, 2, 0, 1)), None)
        self.assertIsNone(signal_error(three))
        first = (0, 3, 2, GREAT - 1)
        joined = (5 * GREAT - 5, 6, 0, 1)
        last = (5 * GREAT + 2, 3, 1, GREAT - 1)
        self.assertEqual(answer((("off", 2),), three), (None, (first, joined, last, (9 * GREAT - 2, 4, 0, 1)), None))

    def test_great_trains_by_windows(self):
        # A train of many ons does at its ends what one of few ons does.
        rng = random.Random(8)
        for _ in range(60):
            on, off, behind = rng.choice((1, 3, 4, 5)), rng.randint(1, 5), rng.randint(1, 6)
            row = some_row(rng, 4, 3)
            windows = []
            for times in (60, GREAT):
                end = 4 + times * on + (times - 1) * off
                signal = (None, ((-9, 2, 0, 1), (4, on, off, times)), end + behind)
                self.assertIsNone(signal_error(signal))
                after = answer(row, signal)
                windows.append([is_on(after, tick) for tick in (*range(-20, 60), *range(end - 60, end + 60))])
            self.assertEqual(windows[0], windows[1], (row, on, off, behind))

    def test_numbers_beyond_the_bounds(self):
        far = 10 ** 80
        signal = (-far, ((0, far, 7, far), (far * far * 3, 3, 0, 1)), far ** 3)
        self.assertEqual(answer((("on", 2), ("off", 3), ("delay", 1)), signal),
                         (3 + 1 - far, ((3, far + 1, 6, far), (far * far * 3 + 3, 4, 0, 1)), far ** 3 + 3))
        self.assertEqual(answer((("turn",), ("turn",)), signal), signal)


class TestWhatHolds(unittest.TestCase):
    """[B5]"""

    def setUp(self):
        self.rng = random.Random(9)
        self.signals = [ON, OFF, DOOR, (5, (), 9), (None, ((0, 2, 1, GREAT),), None)]
        self.signals += [signal_of(train_strip(self.rng, self.rng.randint(0, 8))) for _ in range(25)]
        self.rows = [some_row(self.rng, self.rng.randint(0, 6), 4) for _ in range(25)]

    def check_alike(self, one, other):
        for signal in self.signals:
            self.assertEqual(answer(one, signal), answer(other, signal), (one, other, signal))

    def test_moved_signals(self):
        for row in self.rows:
            for signal in self.signals:
                for ticks in (1, -7, GREAT):
                    self.assertEqual(answer(row, moved(signal, ticks)), moved(answer(row, signal), ticks))

    def test_rows_put_together(self):
        for one, other in itertools.product(self.rows[:12], self.rows[12:]):
            for signal in self.signals[::4]:
                after = answer(one, signal)
                self.assertEqual(answer(one + other, signal), answer(other, after))
                self.assertEqual(answers(one + other, signal), answers(one, signal) + answers(other, after))

    def test_neighbours(self):
        for first, second in itertools.product((0, 1, 2, 5, GREAT // 2), repeat=2):
            for word in ("on", "off", "delay"):
                self.check_alike(((word, first), (word, second)), ((word, first + second),))
            for part in (("on", second), ("off", second), ("delay", second), ("turn",)):
                self.check_alike((("delay", first), part), (part, ("delay", first)))

    def test_turns(self):
        for ticks in (0, 1, 3, GREAT):
            self.check_alike((("turn",), ("on", ticks)), (("off", ticks), ("turn",)))
            self.check_alike((("turn",), ("off", ticks)), (("on", ticks), ("turn",)))
        for row in self.rows:
            self.check_alike((("turn",), ("turn",)) + row, row)

    def test_less_stays_less(self):
        for _ in range(150):
            more = train_strip(self.rng, 5)
            less = (more[0] and self.rng.random() < 0.5, [on and self.rng.random() < 0.7 for on in more[1]])
            row = self.rng.choice(self.rows)
            after = [row_strips(row, strip)[-1] if row else strip for strip in (less, more)]
            self.assertEqual([answer(row, signal_of(strip)) for strip in (less, more)],
                             [signal_of(strip) for strip in after])
            if row.count(("turn",)) % 2:
                after.reverse()
            for tick in range(-20, 90):
                self.assertLessEqual(strip_at(after[0], tick), strip_at(after[1], tick))

    def test_each_on_begins_later_and_each_off_ends_later(self):
        for ticks in range(8):
            for length in range(1, 12):
                alone = (None, ((5, length, 0, 1),), None)
                left = (None, ((5 + ticks, length - ticks, 0, 1),), None)
                self.assertEqual(answer((("on", ticks),), alone), left if length > ticks else OFF)
                gap = (5, (), 5 + length)
                self.assertEqual(answer((("off", ticks),), gap), (5 + ticks, (), 5 + length) if length > ticks else ON)


class TestConventions(unittest.TestCase):
    def test_arguments_by_name(self):
        self.assertEqual(answer(row=ROW, signal=DOOR), (None, ((6, 15, 0, 1),), None))
        self.assertEqual(answers(signal=DOOR, row=ROW)[-1], (None, ((6, 15, 0, 1),), None))

    def test_equal_calls_get_equal_results(self):
        rng = random.Random(10)
        for _ in range(50):
            row, signal = some_row(rng, 6, 4), signal_of(train_strip(rng, 6))
            ahead = repr((row, signal))
            self.assertEqual(repr(answers(row, signal)), repr(answers(row, signal)))
            self.assertEqual(repr((row, signal)), ahead)

    def test_kinds(self):
        rng = random.Random(12)
        for _ in range(50):
            for until, bursts, since in answers(some_row(rng, 6, 4), signal_of(train_strip(rng, 6))):
                self.assertIs(type(bursts), tuple)
                for burst in bursts:
                    self.assertEqual([type(number) for number in burst], [int] * 4)
                for end in (until, since):
                    self.assertIn(type(end), (int, type(None)))

    def test_long_rows_are_taken(self):
        self.assertEqual(answer((("delay", 1),) * 400, DOOR), moved(DOOR, 400))
        self.assertEqual(on_ticks(answer((("off", 10 ** 40),), (None, ((0, 1, 0, 1),), None)), 0, 10 ** 50), 10 ** 40 + 1)


if __name__ == "__main__":
    unittest.main()
