"""Signals: how each is told, what is none, and where they are on."""

import random
import unittest

from latewires.errors import BadText
from latewires.signals import is_on, on_ticks, signal_error
from tests.models import START, all_strips, signal_of, strip_at, strip_of, train_strip

TOP = 10 ** 60
SOME = (3, ((5, 2, 3, 4), (40, 1, 0, 1)), 90)


def singles(many):
    """Return so many bursts, each of one on, none of which would take on from the next one."""
    return tuple((10 * k, 1 + k % 2, 0, 1) for k in range(many))


class TestForm(unittest.TestCase):
    def check(self, *values):
        for value in values:
            with self.subTest(value=value):
                self.assertEqual(signal_error(value), "form")

    def test_what_is_no_triple(self):
        self.check(None, 0, 3, True, "", "on", "abc", (), (None,), (None, ()), (None, (), None, None), {}, {1: 2})
        self.check([None, (), None], [3, (), 9], ((None, (), None),), {0: 3, 1: (), 2: None}, BadText())

    def test_bursts_that_are_no_tuple(self):
        self.check((None, [], None), (None, [(0, 1, 0, 1)], None), (None, None, None), (None, 0, None))
        self.check((None, "", None), (None, {}, None))

    def test_ends_that_are_no_numbers(self):
        for end in (True, False, "3", "", (), (3,), [3], {}, TOP + 1, -TOP - 1, 10 ** 400, BadText()):
            self.check((end, (), None), (None, (), end), (end, (), end))

    def test_ends_at_the_bounds(self):
        for end in (TOP, -TOP, 0):
            self.assertIsNone(signal_error((end, (), None)))
            self.assertIsNone(signal_error((None, (), end)))
        self.assertIsNone(signal_error((-TOP, (), TOP)))

    def test_many_bursts(self):
        self.assertIsNone(signal_error((None, singles(100), None)))
        self.check((None, singles(101), None), (None, (None,) * 101, None))
        self.assertEqual(signal_error((None, (None,) * 100, None)), ("burst", 0))


class TestBursts(unittest.TestCase):
    def test_what_is_a_burst(self):
        for burst in ((0, 1, 0, 1), (-TOP, TOP, 0, 1), (TOP, TOP, TOP, TOP), (5, 1, 1, 2), (0, 1, TOP, 2)):
            with self.subTest(burst=burst):
                self.assertIsNone(signal_error((None, (burst,), None)))

    def test_what_is_no_burst(self):
        wrong = [
            None, 0, "0 1", (), (0, 1, 0), (0, 1, 0, 1, 1), [0, 1, 0, 1], {0: 1}, ((0, 1, 0, 1),),
            (0, 0, 0, 1), (0, -1, 0, 1), (0, 1, 1, 1), (0, 1, -1, 1), (0, 1, 0, 0), (0, 1, 1, 0),
            (0, 1, 0, -1), (0, 1, 1, -2), (0, 1, 0, 2), (0, 1, -1, 2), (0, 0, 1, 2),
            (True, 1, 0, 1), (0, True, 0, 1), (0, 1, False, 1), (0, 1, 0, True), (0, 1, True, 2),
            (None, 1, 0, 1), ("0", 1, 0, 1), (0, "1", 0, 1), (0, 1, None, 1), (0, 1, 0, None), (0, 1, [], 2),
            (TOP + 1, 1, 0, 1), (-TOP - 1, 1, 0, 1), (0, TOP + 1, 0, 1), (0, 1, TOP + 1, 2), (0, 1, 1, TOP + 1),
        ]
        for item in wrong:
            with self.subTest(item=item):
                self.assertEqual(signal_error((None, (item,), None)), ("burst", 0))
                self.assertEqual(signal_error((None, ((-90, 7, 0, 1), item), None)), ("burst", 1))

    def test_the_first_one_is_told(self):
        self.assertEqual(signal_error((None, ((0, 1, 0, 1), None, (), (3, 2, 0, 1)), None)), ("burst", 1))


class TestOrder(unittest.TestCase):
    def test_the_first_burst_behind_until(self):
        self.assertIsNone(signal_error((3, ((4, 1, 0, 1),), None)))
        self.assertIsNone(signal_error((-3, ((-2, 1, 0, 1),), None)))
        for tick in (3, 2, -50):
            self.assertEqual(signal_error((3, ((tick, 1, 0, 1),), None)), ("order", 0))

    def test_each_burst_behind_the_one_ahead(self):
        self.assertIsNone(signal_error((None, ((0, 2, 3, 4), (18, 1, 0, 1)), None)))
        for tick in (17, 16, 0, -9):
            self.assertEqual(signal_error((None, ((0, 2, 3, 4), (tick, 1, 0, 1)), None)), ("order", 1))
        bursts = ((0, 1, 0, 1), (2, 2, 0, 1), (5, 1, 0, 1))
        self.assertIsNone(signal_error((None, bursts, None)))
        self.assertEqual(signal_error((None, bursts + ((6, 3, 0, 1),), None)), ("order", 3))

    def test_great_numbers(self):
        self.assertIsNone(signal_error((None, ((-TOP, TOP, 0, 1), (1, 7, 0, 1)), None)))
        self.assertEqual(signal_error((None, ((-TOP, TOP, 0, 1), (0, 7, 0, 1)), None)), ("order", 1))

    def test_since_at_the_least_distance(self):
        self.assertIsNone(signal_error((None, ((5, 2, 0, 1),), 8)))
        self.assertEqual(signal_error((None, ((5, 2, 0, 1),), 7)), ("since",))
        self.assertIsNone(signal_error((None, ((0, 2, 3, 4),), 18)))
        for since in (17, 3, -9):
            self.assertEqual(signal_error((None, ((0, 2, 3, 4),), since)), ("since",))
        self.assertIsNone(signal_error((3, (), 4)))
        self.assertEqual(signal_error((3, (), 3)), ("since",))
        self.assertEqual(signal_error((3, (), 2)), ("since",))
        self.assertIsNone(signal_error((None, (), -TOP)))

    def test_always_on_and_what_is_near_it(self):
        self.assertIsNone(signal_error((0, (), 0)))
        self.assertIsNone(signal_error((0, (), 1)))
        self.assertIsNone(signal_error((-1, (), 0)))
        self.assertIsNone(signal_error((0, (), None)))
        self.assertIsNone(signal_error((None, (), 0)))
        for value in ((1, (), 1), (-1, (), -1), (0, (), -1), (1, (), 0)):
            self.assertEqual(signal_error(value), ("since",))
        for value in ((False, (), 0), (0, (), False), (False, (), False), (0, [], 0), [0, (), 0]):
            self.assertEqual(signal_error(value), "form")
        self.assertEqual(signal_error((0, ((0, 1, 0, 1),), 0)), ("order", 0))
        self.assertEqual(signal_error((0, ((1, 1, 0, 1),), 0)), ("since",))


class TestJoined(unittest.TestCase):
    def test_a_single_on_ahead(self):
        for tick in (8, 9, 50):
            self.assertEqual(signal_error((None, ((5, 2, 0, 1), (tick, 2, 0, 1)), None)), ("joined", 0))
            self.assertEqual(signal_error((None, ((5, 2, 0, 1), (tick, 2, 1, 3)), None)), ("joined", 0))
            self.assertIsNone(signal_error((None, ((5, 2, 0, 1), (tick, 3, 0, 1)), None)))
            self.assertIsNone(signal_error((None, ((5, 2, 0, 1), (tick, 1, 1, 3)), None)))

    def test_a_train_ahead(self):
        train = (5, 2, 1, 3)
        self.assertEqual(signal_error((None, (train, (14, 2, 0, 1)), None)), ("joined", 0))
        self.assertEqual(signal_error((None, (train, (14, 2, 1, 2)), None)), ("joined", 0))
        self.assertEqual(signal_error((None, (train, (14, 2, 7, 2)), None)), ("joined", 0))
        self.assertIsNone(signal_error((None, (train, (15, 2, 0, 1)), None)))
        self.assertIsNone(signal_error((None, (train, (15, 2, 1, 2)), None)))
        self.assertIsNone(signal_error((None, (train, (14, 1, 0, 1)), None)))
        self.assertIsNone(signal_error((None, (train, (14, 3, 1, 2)), None)))

    def test_the_first_one_is_told(self):
        bursts = ((0, 1, 0, 1), (2, 2, 0, 1), (5, 3, 0, 1), (9, 3, 0, 1), (13, 3, 0, 1))
        self.assertEqual(signal_error((None, bursts, None)), ("joined", 2))
        self.assertIsNone(signal_error((None, bursts[:3], None)))


class TestOneOrder(unittest.TestCase):
    """Where several answers apply the first one told is returned."""

    def test_form_is_first(self):
        self.assertEqual(signal_error((True, (None,), None)), "form")
        self.assertEqual(signal_error((3, ((3, 1, 0, 1),), "9")), "form")

    def test_bursts_are_ahead_of_order(self):
        self.assertEqual(signal_error((3, ((1, 1, 0, 1), (0, 1, 0, 1), (9, 0, 0, 1)), 2)), ("burst", 2))

    def test_order_is_ahead_of_since(self):
        self.assertEqual(signal_error((3, ((9, 1, 0, 1), (10, 1, 0, 1)), 2)), ("order", 1))

    def test_order_is_ahead_of_joined(self):
        self.assertEqual(signal_error((None, ((0, 1, 0, 1), (2, 1, 0, 1), (3, 1, 0, 1)), None)), ("order", 2))

    def test_since_is_ahead_of_joined(self):
        self.assertEqual(signal_error((None, ((0, 1, 0, 1), (2, 1, 0, 1)), 3)), ("since",))
        self.assertEqual(signal_error((None, ((0, 1, 0, 1), (2, 1, 0, 1)), 4)), ("joined", 0))


class TestTicks(unittest.TestCase):
    def test_each_small_signal_tick_by_tick(self):
        for strip in all_strips(8):
            signal = signal_of(strip)
            self.assertIsNone(signal_error(signal))
            for tick in range(START - 3, START + 12):
                on = is_on(signal, tick)
                self.assertIs(on, strip_at(strip, tick), (signal, tick))
                self.assertIs(type(on_ticks(signal, tick, tick)), int)

    def test_each_stretch_of_small_signals(self):
        rng = random.Random(7)
        for _ in range(60):
            strip = train_strip(rng, rng.randint(0, 4))
            signal = signal_of(strip)
            self.assertIsNone(signal_error(signal))
            ticks = range(START - 3, START + len(strip[1]) + 3)
            for low in ticks:
                many = 0
                for high in range(low, ticks[-1] + 1):
                    many += strip_at(strip, high)
                    self.assertEqual(on_ticks(signal, low, high), many, (signal, low, high))

    def test_bursts_as_the_document_tells_them(self):
        signal = (-3, ((-1, 2, 3, 3), (15, 1, 0, 1)), 20)
        strip = strip_of(signal, 40)
        self.assertEqual([tick for tick in range(-6, 22) if is_on(signal, tick)],
                         [-6, -5, -4, -1, 0, 4, 5, 9, 10, 15, 20, 21])
        self.assertEqual(signal_of(strip), signal)

    def test_empty_stretches(self):
        for signal in (SOME, (0, (), 0), (None, (), None), (5, (), 9)):
            for low, high in ((1, 0), (9, 3), (0, -1), (TOP, -TOP), (100, 99), (3, 2)):
                self.assertEqual(on_ticks(signal, low, high), 0)

    def test_great_trains(self):
        many = 10 ** 30
        train = (None, ((5, 2, 3, many),), None)
        end = 5 + 2 * many + 3 * (many - 1)
        self.assertEqual(on_ticks(train, -TOP, TOP), 2 * many)
        self.assertEqual(on_ticks(train, 6, TOP), 2 * many - 1)
        self.assertEqual(on_ticks(train, 5 + 5 * 10 ** 29, 5 + 10 ** 30), 2 * 10 ** 29 + 1)
        self.assertEqual([is_on(train, end + k) for k in (-7, -6, -3, -2, -1, 0, 1)],
                         [True, True, False, True, True, False, False])
        self.assertEqual([is_on(train, 5 * 10 ** 29 + k) for k in range(5, 11)],
                         [True, True, False, False, False, True])

    def test_great_stretches(self):
        self.assertEqual(on_ticks(SOME, 4 - TOP, TOP), (TOP - 4 + 3) + 8 + 1 + (TOP - 90 + 1))
        self.assertEqual(on_ticks((0, (), 0), 1, TOP), TOP)
        self.assertEqual(on_ticks((0, (), 0), -TOP, TOP), 2 * TOP + 1)
        self.assertEqual(on_ticks((None, (), None), -TOP, TOP), 0)
        self.assertEqual(on_ticks((None, (), TOP), 1, TOP), 1)
        self.assertEqual(on_ticks((-TOP, (), None), -TOP - 4, TOP), 4)
        self.assertIs(is_on((0, (), 0), TOP), True)
        self.assertIs(is_on((None, (), None), -TOP), False)

    def test_signals_beyond_the_bounds(self):
        great = (-10 ** 70, tuple((20 * k * TOP, TOP * (1 + k % 2), TOP, 4) for k in range(300)), 10 ** 90)
        self.assertEqual(on_ticks(great, 0, 10 ** 80), 150 * 4 * TOP * 3)
        self.assertEqual(on_ticks(great, -10 ** 70 - 5, 10 ** 90 + 5), 5 + 150 * 4 * TOP * 3 + 6)
        self.assertIs(is_on(great, 20 * TOP), True)
        self.assertIs(is_on(great, 20 * TOP + 2 * TOP), False)

    def test_two_stretches_together_are_the_whole(self):
        rng = random.Random(11)
        signals = [SOME, (0, (), 0), (None, (), None), (None, ((5, 2, 3, 10 ** 30),), 10 ** 31)]
        signals += [signal_of(train_strip(rng, 5)) for _ in range(20)]
        for signal in signals:
            for reach in (60, 10 ** 31, TOP):
                low, middle, high = sorted(rng.randint(-reach, reach) for _ in range(3))
                whole = on_ticks(signal, low, high)
                self.assertEqual(on_ticks(signal, low, middle) + on_ticks(signal, middle + 1, high), whole)
                self.assertEqual(on_ticks(signal, low, low) + on_ticks(signal, low + 1, high), whole)


class TestOneTelling(unittest.TestCase):
    """[A9]: two signals are one tuple exactly if they are on at the same ticks."""

    def test_what_signal_error_lets_by_is_told_in_the_one_way(self):
        bursts = [(tick, on, off, times)
                  for tick in range(-3, 4) for on in (1, 2) for off in (0, 1, 2) for times in (1, 2)]
        let = 0
        for until in (None, -4, -3):
            for since in (None, 4, 6):
                for pair in [()] + [(one,) for one in bursts] + [(one, two) for one in bursts for two in bursts]:
                    signal = (until, pair, since)
                    if signal_error(signal) is None:
                        let += 1
                        self.assertEqual(signal_of(strip_of(signal, 22)), signal)
        self.assertGreater(let, 500)


class TestConventions(unittest.TestCase):
    def test_arguments_by_name(self):
        self.assertIsNone(signal_error(value=SOME))
        self.assertIs(is_on(signal=SOME, tick=5), True)
        self.assertIs(is_on(SOME, tick=7), False)
        self.assertEqual(on_ticks(signal=SOME, low=0, high=12), 7)
        self.assertEqual(on_ticks(high=12, signal=SOME, low=0), 7)

    def test_what_is_handed_in_is_not_changed(self):
        for value in ([3, [], None], {"a": [1]}, (None, [[0, 1, 0, 1]], None), (None, ([0, 1, 0, 1],), None)):
            ahead = repr(value)
            signal_error(value)
            self.assertEqual(repr(value), ahead)

    def test_functions_stand_in_their_file(self):
        for function in (signal_error, is_on, on_ticks):
            self.assertEqual(function.__module__, "latewires.signals")


if __name__ == "__main__":
    unittest.main()
