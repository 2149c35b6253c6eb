"""Papers that show that rows lie not within others, or are unlike."""

import itertools
import random
import unittest

from latewires.answers import answer
from latewires.orders import alike, within
from latewires.papers import beyond, beyond_holds, unlike, unlike_holds
from latewires.signals import is_on, signal_error
from tests.models import all_strips, row_strips, scaled_row, signal_of, some_row, strip_at, strip_of
from tests.values import VALUES, near

TURN = ("turn",)
TOP = 10 ** 30
ON, OFF = (0, (), 0), (None, (), None)
STEADY, WIDE = (("on", 4), ("off", 4)), (("off", 4), ("on", 4))
TWICE, BACK = (("on", 2), ("off", 4), ("on", 2)), (("off", 2), ("on", 4), ("off", 2))
SWINGS = tuple((("on", "off")[k % 2], TOP - 40 + k) for k in range(40))
SMALL = [TURN] + [(word, ticks) for word in ("on", "off") for ticks in (1, 2)] + [("delay", 1)]


def is_on_behind(row, paper):
    """Return whether a row's answer to a small signal is on at a tick, counted tick by tick."""
    signal, tick = paper
    strip = strip_of(signal, 90)
    return strip_at(row_strips(row, strip)[-1] if row else strip, tick)


class TestFoundPapers(unittest.TestCase):
    def check(self, one, other):
        for paper, expected in ((beyond(one, other), not within(one, other)), (unlike(one, other), not alike(one, other))):
            self.assertEqual(paper is not None, expected, (one, other))
            if paper is not None:
                signal, tick = paper
                self.assertIs(type(paper), tuple)
                self.assertIs(type(tick), int)
                self.assertIsNone(signal_error(signal), (one, other))
        paper = beyond(one, other)
        if paper is not None:
            self.assertTrue(is_on(answer(one, paper[0]), paper[1]), (one, other))
            self.assertFalse(is_on(answer(other, paper[0]), paper[1]), (one, other))
            self.assertIs(beyond_holds(one, other, paper), True)
            self.assertIs(unlike_holds(one, other, paper), True)
        paper = unlike(one, other)
        if paper is not None:
            self.assertNotEqual(*[is_on(answer(row, paper[0]), paper[1]) for row in (one, other)])
            self.assertIs(unlike_holds(one, other, paper), True)
            self.assertIs(unlike_holds(other, one, paper), True)

    def test_all_small_rows(self):
        rows = [row for many in range(3) for row in itertools.product(SMALL, repeat=many)]
        for one, other in itertools.product(rows, repeat=2):
            self.check(one, other)

    def test_small_papers_tick_by_tick(self):
        rng = random.Random(1)
        for _ in range(1500):
            one, other = some_row(rng, rng.randint(0, 5), 2), some_row(rng, rng.randint(0, 5), 2)
            paper = beyond(one, other)
            if paper is not None:
                self.assertTrue(is_on_behind(one, paper), (one, other))
                self.assertFalse(is_on_behind(other, paper), (one, other))

    def test_rows_that_only_stages_tell_apart(self):
        rng = random.Random(2)
        found = 0
        for _ in range(3000):
            rises = [(rng.choice(("on", "off")), rng.randint(1, 4)) for _ in range(rng.randint(2, 6))]
            one, other = tuple(rises), tuple(rng.sample(rises, len(rises)))
            self.check(one, other)
            self.check(one + (TURN,), (TURN,) + tuple(({"on": "off", "off": "on"}[word], ticks) for word, ticks in other))
            found += beyond(one, other) is not None
        self.assertGreater(found, 500)

    def test_forty_parts_and_great_ticks(self):
        rng = random.Random(3)
        rows = [some_row(rng, 40, most, words) for most in (3, 20, TOP)
                for words in (("on", "off"), ("on", "off", "delay", "turn")) for _ in range(5)]
        rows += [SWINGS, SWINGS[::-1], SWINGS[1:], SWINGS[:-1], SWINGS[:39] + (TURN,), tuple(reversed(SWINGS[1:]))]
        rows += [(("on", TOP),) * 40, (("off", TOP),) * 40, (("delay", TOP),) * 40, (TURN,) + (("on", TOP),) * 39]
        for one, other in itertools.product(rows, repeat=2):
            self.check(one, other)

    def test_great_ticks_as_small_ones(self):
        rng = random.Random(4)
        for _ in range(600):
            one, other = (scaled_row(some_row(rng, rng.randint(0, 6), 4), TOP // 4) for _ in range(2))
            self.check(one, other)

    def test_forty_parts_with_one_amiss(self):
        rng = random.Random(5)
        for _ in range(100):
            one = some_row(rng, 40, TOP, ("on", "off"))
            place = rng.randrange(40)
            word, ticks = one[place]
            for part in ((word, max(0, ticks - 1)), ({"on": "off", "off": "on"}[word], ticks), TURN):
                other = one[:place] + (part,) + one[place + 1:]
                self.check(one, other)
                self.check(other, one)

    def test_none(self):
        for one, other in ((STEADY, WIDE), (TWICE, BACK), (STEADY, STEADY), ((), ()), ((("on", 3),), ())):
            self.assertIsNone(beyond(one, other))
            self.assertIsNone(beyond(other + (TURN,), one + (TURN,)))
            self.assertIsNone(unlike(one, one))
        self.assertIsNone(unlike((TURN, ("on", 3)), (("off", 3), TURN)))

    def test_one_of_them_turned(self):
        for row in ((), STEADY, SWINGS[:39], (("delay", TOP),) * 39):
            self.check(row, row + (TURN,))
            self.check(row + (TURN,), row)


class TestHeldPapers(unittest.TestCase):
    def test_all_small_papers(self):
        rng = random.Random(6)
        pairs = [(STEADY, WIDE), (WIDE, STEADY), (BACK, TWICE), ((("on", 1),), ()), ((), (TURN,)), (TWICE, TWICE)]
        pairs += [(some_row(rng, 2, 2), some_row(rng, 2, 2)) for _ in range(20)]
        strips = rng.sample(list(all_strips(8)), 60)
        for one, other in pairs:
            for strip in strips:
                signal = signal_of(strip)
                on = [row_strips(row, strip)[-1] if row else strip for row in (one, other)]
                for tick in range(-9, 20):
                    first, second = [strip_at(after, tick) for after in on]
                    self.assertIs(beyond_holds(one, other, (signal, tick)), first and not second)
                    self.assertIs(unlike_holds(one, other, (signal, tick)), first != second)

    def test_ticks_at_the_edge(self):
        paper = (None, ((0, 4, 0, 1),), None)
        self.assertEqual([beyond_holds(WIDE, STEADY, (paper, tick)) for tick in range(2, 10)],
                         [False, False, True, True, True, True, False, False])
        self.assertEqual([beyond_holds(STEADY, WIDE, (paper, tick)) for tick in range(2, 10)], [False] * 8)
        self.assertEqual([unlike_holds(STEADY, WIDE, (paper, tick)) for tick in range(2, 10)],
                         [False, False, True, True, True, True, False, False])

    def test_ticks_far_away(self):
        self.assertTrue(beyond_holds((), (TURN,), (ON, 10 ** 399)))
        self.assertTrue(beyond_holds((), (TURN,), (ON, -10 ** 399)))
        self.assertFalse(beyond_holds((TURN,), (), (ON, 10 ** 399)))
        self.assertTrue(unlike_holds((TURN,), (), (OFF, 10 ** 399)))

    def test_values_of_all_kinds(self):
        rows = [(), STEADY, WIDE, (TURN,), (("delay", TOP),)]
        for one, other in itertools.product(rows, repeat=2):
            for value in VALUES:
                self.assertIs(beyond_holds(one, other, value), False)
                self.assertIs(unlike_holds(one, other, value), False)
                if signal_error(value) is not None:
                    self.assertIs(beyond_holds(one, other, (value, 4)), False)
                    self.assertIs(unlike_holds(one, other, (value, 4)), False)
                if type(value) is not int:
                    self.assertIs(beyond_holds((), (TURN,), (ON, value)), False)
                    self.assertIs(unlike_holds((), (TURN,), (ON, value)), False)

    def test_what_is_near_a_paper(self):
        for paper in (beyond(WIDE, STEADY), ((None, ((0, 1, 1, 2),), None), 4), ((-9, ((-7, 2, 3, 4),), 40), 3)):
            for value in near(paper):
                is_paper = (type(value) is tuple and len(value) == 2 and signal_error(value[0]) is None
                            and type(value[1]) is int)
                for one, other in ((WIDE, STEADY), (BACK, TWICE), ((), (("on", 1),))):
                    held, told = beyond_holds(one, other, value), unlike_holds(one, other, value)
                    if is_paper:
                        on = [is_on(answer(row, value[0]), value[1]) for row in (one, other)]
                        self.assertEqual([held, told], [on == [True, False], on[0] != on[1]])
                    else:
                        self.assertEqual([held, told], [False, False], value)

    def test_signals_at_the_bounds(self):
        far = 10 ** 60
        some = (None, tuple((3 * k, 1 + k % 2, 0, 1) for k in range(101)), None)
        self.assertFalse(beyond_holds((), (TURN,), (some, 0)))
        some = (None, some[1][:100], None)
        self.assertIsNone(signal_error(some))
        self.assertTrue(beyond_holds((), (TURN,), (some, 0)))
        self.assertTrue(beyond_holds((), (TURN,), ((-far, (), far), far)))
        self.assertFalse(beyond_holds((), (TURN,), ((-far, (), far + 1), far + 1)))
        self.assertFalse(beyond_holds((), (TURN,), ((-far - 1, (), far), far)))
        self.assertFalse(beyond_holds((), (TURN,), ((None, ((0, far, far, far),), None), 3 * far)))
        self.assertTrue(beyond_holds((), (TURN,), ((None, ((0, far, far, far),), None), 2 * far)))
        # Told in another way than the one in which signals are told.
        self.assertFalse(beyond_holds((), (TURN,), ((None, ((0, 1, 0, 1), (2, 1, 0, 1)), None), 0)))
        self.assertFalse(beyond_holds((), (TURN,), ((3, (), 3), 0)))
        self.assertFalse(beyond_holds((), (TURN,), ([None, (), 0], 0)))
        self.assertFalse(beyond_holds((), (TURN,), ((None, [], 0), 0)))
        self.assertFalse(beyond_holds((), (TURN,), ((0, (), False), 0)))

    def test_no_paper_holds_for_rows_that_lie_within(self):
        rng = random.Random(7)
        for _ in range(200):
            one, other = some_row(rng, 3, 2), some_row(rng, 3, 2)
            paper = beyond(other, one)
            if paper is not None and within(one, other):
                self.assertFalse(beyond_holds(one, other, paper))


class TestConventions(unittest.TestCase):
    def test_arguments_by_name(self):
        paper = beyond(one=WIDE, other=STEADY)
        self.assertIs(beyond_holds(one=WIDE, other=STEADY, value=paper), True)
        paper = unlike(one=STEADY, other=WIDE)
        self.assertIs(unlike_holds(one=STEADY, other=WIDE, value=paper), True)

    def test_equal_calls_get_equal_results_and_change_nothing(self):
        rng = random.Random(8)
        for _ in range(60):
            one, other = some_row(rng, 5, 3), some_row(rng, 5, 3)
            ahead = repr((one, other))
            self.assertEqual(repr(beyond(one, other)), repr(beyond(one, other)))
            self.assertEqual(repr(unlike(one, other)), repr(unlike(one, other)))
            self.assertEqual(repr((one, other)), ahead)
        for value in ([ON, 4], ({"a": []}, [3]), (ON, [4])):
            ahead = repr(value)
            beyond_holds(STEADY, WIDE, value)
            unlike_holds(STEADY, WIDE, value)
            self.assertEqual(repr(value), ahead)


if __name__ == "__main__":
    unittest.main()
