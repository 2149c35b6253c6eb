"""Loose rows, beside all of their choices."""

import itertools
import random
import unittest

from latewires.answers import answer
from latewires.loose import (
    always_alike, least_on, loose_error, most_on, sure_beyond, sure_beyond_holds, sure_within,
)
from latewires.orders import alike, within
from latewires.papers import beyond_holds
from latewires.rows import row_error
from latewires.signals import is_on, signal_error
from tests.models import row_strips, signal_of, strip_at, train_strip
from tests.values import VALUES, near

TURN = ("turn",)
TOP = 10 ** 30
ON, OFF = (0, (), 0), (None, (), None)
EDGE, ABOUT = (("on", 2, 4), ("off", 3, 3)), (("on", 2, 4), TURN, ("off", 1, 5), ("delay", 6))
SMALL = [TURN, ("delay", 1), ("on", 0, 1), ("on", 1, 1), ("on", 1, 2), ("off", 0, 2), ("off", 2, 2), ("off", 1, 3)]
SMALL_LOOSE = [loose for many in range(3) for loose in itertools.product(SMALL, repeat=many)]


def choices(loose):
    """Return the list of all choices of loose."""
    each = [[(part[0], ticks) for ticks in range(part[1], part[2] + 1)] if len(part) == 3 else [part] for part in loose]
    return list(itertools.product(*each))


def some_loose(rng, parts, most, apart=2):
    """Return a loose row of so many parts, with bounds at most so far apart, by a random source."""
    loose = []
    for _ in range(parts):
        word = rng.choice(("on", "off", "on", "off", "delay", "turn"))
        low = rng.randint(0, most)
        loose.append({"turn": TURN, "delay": ("delay", low)}.get(word, (word, low, low + rng.randint(0, apart))))
    return tuple(loose)


def is_integer(value):
    return type(value) is int


def loose_part(value):
    """Return whether value is a loose part, as the document says it."""
    if type(value) is not tuple or not value or type(value[0]) is not str:
        return False
    if value[0] == "turn":
        return len(value) == 1
    if value[0] == "delay":
        return len(value) == 2 and is_integer(value[1]) and 0 <= value[1] <= TOP
    if value[0] in ("on", "off") and len(value) == 3 and is_integer(value[1]) and is_integer(value[2]):
        return 0 <= value[1] <= value[2] <= TOP
    return False


def expected_error(value):
    """Return what loose_error tells, as the document says it."""
    if type(value) is not tuple or len(value) > 40:
        return "form"
    wrong = [place for place, item in enumerate(value) if not loose_part(item)]
    return ("part", wrong[0]) if wrong else None


class TestLooseError(unittest.TestCase):
    def check(self, value):
        told = loose_error(value)
        self.assertEqual(repr(told), repr(expected_error(value)), value)

    def test_loose_rows(self):
        for loose in SMALL_LOOSE + [EDGE, ABOUT, (TURN,) * 40, (("on", 0, TOP),) * 40, (("delay", TOP),) * 40]:
            self.assertIsNone(loose_error(loose))

    def test_values_of_all_kinds(self):
        for value in VALUES:
            self.check(value)
            self.check((value,))
            self.check((TURN, ("on", 1, 2), value))
            for word in ("on", "off", "delay", "turn", value):
                for part in ((word, value), (word, value, 3), (word, 3, value), (word, value, value), (value, 1, 2)):
                    self.check((("delay", 0), part))

    def test_spoilt_in_one_place(self):
        for loose in (EDGE, ABOUT, (("off", 0, 0), ("delay", 1), TURN)):
            for value in near(loose):
                self.check(value)

    def test_bounds(self):
        for part, fits in ((("on", 0, 0), True), (("on", -1, 0), False), (("off", 0, TOP), True), (("off", TOP, TOP), True),
                           (("off", 0, TOP + 1), False), (("on", 4, 3), False), (("on", 3, 3), True), (("delay", TOP), True),
                           (("delay", TOP + 1), False), (("delay", -1), False), (("delay", 1, 1), False), (("on", 3), False),
                           (("turn", 0), False), (("on", True, 1), False), (("on", 0, True), False), (("delay", False), False),
                           (["on", 1, 2], False), ("turn", False), (("late", 1, 2), False), ((), False)):
            self.assertEqual(loose_error((TURN, part)), None if fits else ("part", 1), part)
        self.assertIsNone(loose_error((("on", 1, 2),) * 40))
        self.assertEqual(loose_error((("on", 1, 2),) * 41), "form")
        self.assertEqual(loose_error((("on", 2, 1),) * 41), "form")
        self.assertEqual(loose_error((("on", 1, 2),) * 39 + (("on", 2, 1),)), ("part", 39))


class TestMostAndLeastOn(unittest.TestCase):
    def test_beside_all_choices(self):
        rng = random.Random(1)
        for _ in range(250):
            loose = some_loose(rng, rng.randint(0, 4), 3)
            strip = train_strip(rng, 5)
            told = [row_strips(row, strip)[-1] if row else strip for row in (most_on(loose), least_on(loose))]
            for row in choices(loose):
                after = row_strips(row, strip)[-1] if row else strip
                for tick in range(-8, 60):
                    most, least = [strip_at(each, tick) for each in told]
                    self.assertTrue(least <= strip_at(after, tick) <= most, (loose, row))

    def test_they_are_choices(self):
        rng = random.Random(2)
        for _ in range(400):
            loose = some_loose(rng, rng.randint(0, 5), 4)
            self.assertIn(most_on(loose), choices(loose))
            self.assertIn(least_on(loose), choices(loose))
            for row in choices(loose)[:9]:
                self.assertTrue(within(row, most_on(loose)))
                self.assertTrue(within(least_on(loose), row))

    def test_each_timer_by_the_turns_behind_it(self):
        rng = random.Random(3)
        for _ in range(400):
            loose = some_loose(rng, rng.randint(0, 40), TOP - 9, 9)
            for call, longest in ((most_on, "off"), (least_on, "on")):
                for place, part in enumerate(call(loose)):
                    if len(loose[place]) < 3:
                        self.assertEqual(part, loose[place])
                        continue
                    word, low, high = loose[place]
                    is_longest = (word == longest) == (loose[place + 1:].count(TURN) % 2 == 0)
                    self.assertEqual(part, (word, high if is_longest else low))

    def test_turns_behind(self):
        for turns in range(5):
            loose = (("on", 1, 5), ("off", 2, 6)) + (TURN,) * turns
            outer = ((("on", 1), ("off", 6)) + (TURN,) * turns, (("on", 5), ("off", 2)) + (TURN,) * turns)
            self.assertEqual((most_on(loose), least_on(loose)), outer if turns % 2 == 0 else outer[::-1])
        self.assertEqual(most_on((("on", 1, 5), TURN, ("on", 1, 5), TURN, ("on", 1, 5))),
                         (("on", 1), TURN, ("on", 5), TURN, ("on", 1)))
        self.assertEqual((most_on(()), least_on(())), ((), ()))
        self.assertEqual(most_on((TURN, ("delay", 7))), (TURN, ("delay", 7)))


class TestSure(unittest.TestCase):
    def test_within_beside_all_choices(self):
        rng = random.Random(4)
        told = {loose: choices(loose) for loose in SMALL_LOOSE}
        for one, other in itertools.product(SMALL_LOOSE, repeat=2):
            if rng.random() < 0.4:
                sure = all(within(first, second) for first in told[one] for second in told[other])
                self.assertIs(sure_within(one, other), sure, (one, other))
                some = any(within(first, second) for first in told[one] for second in told[other])
                self.assertIs(within(least_on(one), most_on(other)), some, (one, other))

    def check_beyond(self, one, other):
        told = sure_beyond(one, other)
        self.assertEqual(told is None, sure_within(one, other))
        if told is not None:
            first, second, signal, tick = told
            self.assertIs(type(told), tuple)
            for loose, row in ((one, first), (other, second)):
                self.assertIsNone(row_error(row))
                self.assertEqual([part[0] for part in row], [part[0] for part in loose])
                for part, bounds in zip(row, loose):
                    self.assertTrue(part == TURN or bounds[1] <= part[1] <= bounds[-1])
            self.assertIsNone(signal_error(signal))
            self.assertTrue(is_on(answer(first, signal), tick))
            self.assertFalse(is_on(answer(second, signal), tick))
            self.assertIs(sure_beyond_holds(one, other, told), True)

    def test_beyond(self):
        rng = random.Random(5)
        for one, other in itertools.product(SMALL_LOOSE[::2], repeat=2):
            self.check_beyond(one, other)
        for most, apart in ((4, 2), (TOP - 9, 9), (TOP // 2, TOP // 2)):
            for _ in range(150):
                one = some_loose(rng, rng.randint(0, 40), most, apart)
                other = some_loose(rng, rng.randint(0, 40), most, apart)
                for first, second in ((one, other), (one, one), (one, one + (TURN,)), (one, one[1:])):
                    if len(second) <= 40:
                        self.check_beyond(first, second)

    def test_within_itself_exactly_if_always_alike(self):
        rng = random.Random(6)
        for _ in range(300):
            loose = some_loose(rng, rng.randint(0, 6), 3, rng.choice((0, 1)))
            self.assertIs(sure_within(loose, loose), always_alike(loose))

    def test_beyond_holds_beside_all_choices(self):
        rng = random.Random(7)
        for _ in range(150):
            one, other = some_loose(rng, rng.randint(0, 3), 2, 1), some_loose(rng, rng.randint(0, 3), 2, 1)
            signal = signal_of(train_strip(rng, 4))
            firsts, seconds = choices(one), choices(other)
            rows = firsts + seconds + [row + (TURN,) for row in firsts[:2]] + [(("on", 3),), ()]
            for first, second in itertools.product(rng.sample(rows, min(5, len(rows))), repeat=2):
                for tick in range(-3, 25, 3):
                    held = sure_beyond_holds(one, other, (first, second, signal, tick))
                    self.assertIs(held, first in firsts and second in seconds and beyond_holds(first, second, (signal, tick)))

    def test_spoilt_in_one_place(self):
        def holds(one, other, value):
            """Return whether value holds, as the document says it, all its parts being of the right kinds."""
            if type(value) is not tuple or len(value) != 4:
                return False
            first, second, signal, tick = value
            if row_error(first) is not None or row_error(second) is not None:
                return False
            if first not in choices(one) or second not in choices(other):
                return False
            return beyond_holds(first, second, (signal, tick))

        for one, other in ((EDGE, EDGE), (EDGE, (("off", 2, 9),)), (ABOUT, ABOUT), ((), (TURN,)), (EDGE, EDGE[:1])):
            paper = sure_beyond(one, other)
            self.assertTrue(holds(one, other, paper))
            for value in near(paper):
                self.assertIs(sure_beyond_holds(one, other, value), holds(one, other, value), value)

    def test_true_is_not_one(self):
        paper = ((("on", 1),), (("on", 2),), (None, (), 0), 1)
        one, other = (("on", 0, 1),), (("on", 2, 2),)
        self.assertIs(sure_beyond_holds(one, other, paper), True)
        for value in (((("on", True),),) + paper[1:], paper[:3] + (True,), paper[:2] + ((None, (), False), 1)):
            self.assertIs(sure_beyond_holds(one, other, value), False)
        paper = ((("delay", 1),), (("delay", 2),), (None, (), 0), 1)
        self.assertIs(sure_beyond_holds((("delay", 1),), (("delay", 2),), paper), True)
        self.assertIs(sure_beyond_holds((("delay", 1),), (("delay", 2),), (((("delay", True),),) + paper[1:])), False)
        self.assertIs(sure_beyond_holds((("delay", 1),), (("delay", 2),), (((("delay", 2),),) + paper[1:])), False)

    def test_values_of_all_kinds(self):
        paper = sure_beyond(EDGE, EDGE)
        for value in VALUES:
            self.assertIs(sure_beyond_holds(EDGE, EDGE, value), False)
            for place in range(4):
                spoilt = paper[:place] + (value,) + paper[place + 1:]
                held = place == 2 and signal_error(value) is None and beyond_holds(*paper[:2], (value, paper[3]))
                held = held or (place == 3 and type(value) is int and beyond_holds(*paper[:2], (paper[2], value)))
                self.assertIs(sure_beyond_holds(EDGE, EDGE, spoilt), held)

    def test_signals_at_the_bounds(self):
        far = 10 ** 60
        one, other = (("delay", 0),), (TURN,)
        rows = ((("delay", 0),), (TURN,))
        self.assertIs(sure_beyond_holds(one, other, rows + ((-far, (), far), far)), True)
        self.assertIs(sure_beyond_holds(one, other, rows + ((-far, (), far + 1), far + 1)), False)
        many = tuple((3 * k, 1 + k % 2, 0, 1) for k in range(101))
        self.assertIs(sure_beyond_holds(one, other, rows + ((None, many[:100], None), 0)), True)
        self.assertIs(sure_beyond_holds(one, other, rows + ((None, many, None), 0)), False)
        self.assertIs(sure_beyond_holds(one, other, rows + (ON, -10 ** 399)), True)


class TestAlwaysAlike(unittest.TestCase):
    def test_beside_all_choices(self):
        rng = random.Random(8)
        for _ in range(400):
            loose = some_loose(rng, rng.randint(0, 4), 2, rng.choice((0, 0, 1)))
            told = choices(loose)
            self.assertIs(always_alike(loose), all(alike(told[0], row) for row in told))

    def test_one_tick_apart(self):
        for parts in (1, 7, 40):
            for ticks in (0, 5, TOP - 1):
                loose = tuple(("on", "off")[k % 2:k % 2 + 1] + (ticks, ticks) for k in range(parts))
                self.assertIs(always_alike(loose), True)
                for place in range(parts):
                    apart = loose[:place] + ((loose[place][0], ticks, ticks + 1),) + loose[place + 1:]
                    self.assertIs(always_alike(apart), False)


class TestConventions(unittest.TestCase):
    def test_arguments_by_name(self):
        self.assertIsNone(loose_error(value=EDGE))
        self.assertEqual(most_on(loose=EDGE), (("on", 2), ("off", 3)))
        self.assertEqual(least_on(loose=EDGE), (("on", 4), ("off", 3)))
        self.assertIs(sure_within(one=EDGE, other=(("off", 3, 9),)), True)
        self.assertIsNone(sure_beyond(one=EDGE, other=(("off", 3, 9),)))
        self.assertIs(sure_beyond_holds(one=EDGE, other=EDGE, value=sure_beyond(EDGE, EDGE)), True)
        self.assertIs(always_alike(loose=EDGE), False)

    def test_equal_calls_get_equal_results_and_change_nothing(self):
        rng = random.Random(9)
        for _ in range(60):
            one, other = some_loose(rng, 5, 3), some_loose(rng, 5, 3)
            ahead = repr((one, other))
            for call in (sure_within, sure_beyond):
                self.assertEqual(repr(call(one, other)), repr(call(one, other)))
            for call in (loose_error, most_on, least_on, always_alike):
                self.assertEqual(repr(call(one)), repr(call(one)))
            self.assertEqual(repr((one, other)), ahead)
        for value in ([[("on", 1)], (), OFF, 4], ({"a": []}, [3], 1, 2), ((), (), [None, (), 3], [4])):
            ahead = repr(value)
            sure_beyond_holds(EDGE, EDGE, value)
            loose_error(value)
            self.assertEqual(repr(value), ahead)


if __name__ == "__main__":
    unittest.main()
