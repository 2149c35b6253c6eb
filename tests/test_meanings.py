"""What forms mean, beside what rows answer and beside a cleaning tick by tick."""

import itertools
import random
import unittest

from latewires.answers import answer
from latewires.changes import turned
from latewires.meanings import cleaned, meant
from latewires.signals import signal_error
from latewires.walks import form
from tests.models import all_strips, row_strips, scaled_row, scaled_signal, signal_of, some_row, train_strip

TURN = ("turn",)
ON, OFF = (0, (), 0), (None, (), None)
TOP = 10 ** 30
TRAIN = (None, ((0, 2, 1, 5),), None)
SIGNALS = [
    ON, OFF, (5, (), None), (None, (), 5), (5, (), 6), (-3, (), 9), TRAIN, (0, ((2, 1, 0, 1), (5, 2, 0, 1)), 9),
    (None, ((7, 3, 5, TOP),), None), (-4, ((-2, 3, 5, TOP),), 8 * TOP - 5), (None, ((0, TOP, 1, TOP),), None),
    (None, ((0, 1, 4, TOP), (5 * TOP - 2, 1, 3, TOP), (9 * TOP - 2, 2, 0, 1)), None),
    (None, ((-TOP, 1, TOP, 4), (6 * TOP, TOP, 0, 1)), 9 * TOP), (2, ((4, 1, 1, 9), (24, 2, 2, 9)), None),
]


def cleaned_strip(steps, strip):
    """Return a strip with its short ons and offs gone stage by stage, tick by tick."""
    left, ticks = strip[0], list(strip[1])
    for word, most in steps:
        runs = [(on, len(list(run))) for on, run in itertools.groupby(ticks)]
        told = []
        for place, (on, many) in enumerate(runs):
            ends = (place > 0 or on != left) and place < len(runs) - 1
            gone = ends and many <= most and on == (word == "drop")
            told += [on != gone] * many
        ticks = told
    return left, ticks


def some_steps(rng, most=4):
    """Return stages by turns, ascending for either word, by a random source."""
    words = rng.choice((("drop", "fill"), ("fill", "drop")))
    numbers = {"drop": 0, "fill": 0}
    steps = []
    for place in range(rng.randint(0, 6)):
        word = words[place % 2]
        numbers[word] += rng.randint(1, most)
        steps.append((word, numbers[word]))
    return tuple(steps)


class TestCleaned(unittest.TestCase):
    def check(self, steps, strip):
        self.assertEqual(cleaned(steps, signal_of(strip)), signal_of(cleaned_strip(steps, strip)), (steps, strip))

    def test_each_stage_with_each_small_signal(self):
        for strip in all_strips(8):
            for word in ("drop", "fill"):
                for most in (1, 2, 3, 5):
                    self.check(((word, most),), strip)

    def test_stages_with_trains(self):
        rng = random.Random(1)
        for _ in range(2500):
            self.check(some_steps(rng), train_strip(rng, rng.randint(0, 8)))

    def test_nothing_to_clean_by(self):
        for signal in SIGNALS:
            self.assertEqual(cleaned((), signal), signal)

    def test_endless_ons_and_offs_stay(self):
        steps = (("drop", 10 ** 90), ("fill", 10 ** 90))
        for signal in (ON, OFF, (5, (), None), (None, (), 5)):
            self.assertEqual(cleaned(steps, signal), signal)
            self.assertEqual(cleaned(steps[::-1], signal), signal)
        self.assertEqual(cleaned(steps, (5, ((7, 2, 2, 2),), 90)), ON)
        self.assertEqual(cleaned(steps, (5, ((7, 2, 2, 2),), None)), (5, (), None))

    def test_at_the_number_and_one_beyond(self):
        for most in (1, 2, 7, TOP):
            for on, is_there in ((most, False), (most + 1, True)):
                signal = (None, ((3, on, 0, 1),), None)
                self.assertEqual(cleaned((("drop", most),), signal), signal if is_there else OFF)
                signal = (3, (), 3 + on)
                self.assertEqual(cleaned((("fill", most),), signal), signal if is_there else ON)

    def test_all_at_once_and_in_order(self):
        self.assertEqual(cleaned((("drop", 2), ("fill", 1)), TRAIN), OFF)
        self.assertEqual(cleaned((("fill", 1), ("drop", 13)), TRAIN), (None, ((0, 14, 0, 1),), None))
        self.assertEqual(cleaned((("fill", 1), ("drop", 14)), TRAIN), OFF)

    def test_great_trains(self):
        train = (None, ((0, TOP, 1, TOP),), None)
        whole = TOP * TOP + TOP - 1
        self.assertEqual(cleaned((("fill", 1),), train), (None, ((0, whole, 0, 1),), None))
        self.assertEqual(cleaned((("fill", 1), ("drop", whole)), train), OFF)
        self.assertEqual(cleaned((("drop", TOP - 1),), train), train)
        self.assertEqual(cleaned((("drop", TOP), ("fill", 1)), train), OFF)


class TestMeant(unittest.TestCase):
    """[C6]"""

    def check(self, row, signal):
        self.assertEqual(meant(form(row), signal), answer(row, signal), (row, signal))

    def test_rows_with_each_kind_of_signal(self):
        rng = random.Random(2)
        for _ in range(400):
            row = some_row(rng, rng.randint(0, 12), rng.choice((2, 4, 9)))
            for signal in SIGNALS:
                self.check(row, signal)

    def test_rows_beside_a_count_tick_by_tick(self):
        rng = random.Random(3)
        for _ in range(800):
            row, strip = some_row(rng, rng.randint(1, 7), 4), train_strip(rng, rng.randint(0, 7))
            self.assertEqual(meant(form(row), signal_of(strip)), signal_of(row_strips(row, strip)[-1]))

    def test_each_two_timers_with_each_small_signal(self):
        timers = [(word, ticks) for word in ("on", "off") for ticks in (1, 2, 3)]
        for strip in all_strips(7):
            signal = signal_of(strip)
            for row in itertools.product(timers, repeat=2):
                self.check(row, signal)

    def test_forty_parts(self):
        rng = random.Random(4)
        for _ in range(150):
            row = some_row(rng, 40, rng.choice((3, 20)), rng.choice((("on", "off"), ("on", "off", "delay", "turn"))))
            self.check(row, signal_of(train_strip(rng, 30)))
            self.check(row, rng.choice(SIGNALS))

    def test_stages_that_swing_farther_and_farther(self):
        rng = random.Random(5)
        for _ in range(150):
            row = tuple((("on", "off")[k % 2], 1 + k // 2 + rng.randint(0, 1)) for k in range(rng.randint(2, 40)))
            self.check(row, signal_of(train_strip(rng, 30)))
            self.check(row + (TURN,), signal_of(train_strip(rng, 30)))

    def test_great_ticks(self):
        rng = random.Random(6)
        for _ in range(150):
            row, signal = some_row(rng, 12, 5), signal_of(train_strip(rng, 10))
            by = rng.choice((TOP // 5, 10 ** 90))
            self.assertEqual(meant(form(scaled_row(row, by)), scaled_signal(signal, by)),
                             scaled_signal(answer(row, signal), by))

    def test_rows_longer_than_rows_may_be(self):
        rng = random.Random(7)
        for _ in range(20):
            row = some_row(rng, 120, 3)
            self.check(row, signal_of(train_strip(rng, 40)))
            self.check(scaled_row(row, 10 ** 40), scaled_signal(signal_of(train_strip(rng, 20)), 10 ** 40))

    def test_signals_with_more_bursts_than_they_may_have(self):
        rng = random.Random(8)
        for _ in range(5):
            signal = signal_of(train_strip(rng, 250))
            self.assertEqual(signal_error(signal), "form")
            self.check(some_row(rng, 8, 2), signal)

    def test_turns(self):
        rng = random.Random(9)
        for many in range(7):
            for signal in SIGNALS:
                self.assertEqual(meant(form((TURN,) * many), signal), turned(signal) if many % 2 else signal)
            row = some_row(rng, 5, 3)
            for place in range(6):
                self.check(row[:place] + (TURN,) * many + row[place:], signal_of(train_strip(rng, 8)))

    def test_what_has_no_beginning_or_no_end_stays_so(self):
        for late_on, late_off in ((2, 2), (2, 0), (0, 2), (TOP, 0)):
            steps = (("drop", late_on - late_off),) if late_on > late_off else ()
            steps = (("fill", late_off - late_on),) if late_off > late_on else steps
            shape = (False, late_on, late_off, steps)
            self.assertEqual(meant(shape, (5, (), None)), (5 + late_off, (), None))
            self.assertEqual(meant(shape, (None, (), 5)), (None, (), 5 + late_on))
            self.assertEqual((meant(shape, ON), meant(shape, OFF)), (ON, OFF))
            self.assertEqual((meant((True,) + shape[1:], ON), meant((True,) + shape[1:], OFF)), (OFF, ON))


class TestConventions(unittest.TestCase):
    def test_arguments_by_name(self):
        self.assertEqual(cleaned(steps=(("drop", 2),), signal=TRAIN), OFF)
        self.assertEqual(meant(shape=(True, 0, 0, ()), signal=ON), OFF)

    def test_equal_calls_get_equal_results_and_change_nothing(self):
        rng = random.Random(10)
        for _ in range(60):
            steps, signal, shape = some_steps(rng), signal_of(train_strip(rng, 6)), form(some_row(rng, 6, 4))
            ahead = repr((steps, signal, shape))
            self.assertEqual(repr(cleaned(steps, signal)), repr(cleaned(steps, signal)))
            self.assertEqual(repr(meant(shape, signal)), repr(meant(shape, signal)))
            self.assertEqual(repr((steps, signal, shape)), ahead)


if __name__ == "__main__":
    unittest.main()
