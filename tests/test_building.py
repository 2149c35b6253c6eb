"""Rows for forms, beside all rows of a few ticks."""

import itertools
import random
import unittest

from latewires.answers import answer
from latewires.building import fewest_parts, fewest_timers, row_of
from latewires.errors import BadForm, NoRow, TooMany, WireError
from latewires.forms import form_error
from latewires.orders import alike
from latewires.walks import form
from tests.models import scaled_row, signal_of, some_row, train_strip
from tests.values import VALUES, near

TURN = ("turn",)
TOP = 10 ** 30
ALL = (row_of, fewest_parts, fewest_timers)


def all_timers(ticks):
    """Yield all rows of timers of one tick at least, words by turns, with so many ticks together."""
    for first in ("on", "off"):
        for bits in range(2 ** max(0, ticks - 1)):
            row, word = [], first
            for place in range(ticks):
                if place and bits >> place - 1 & 1:
                    word = "off" if word == "on" else "on"
                if row and row[-1][0] == word:
                    row[-1] = (word, row[-1][1] + 1)
                else:
                    row.append((word, 1))
            yield tuple(row)


def fewest_of(ticks):
    """Return dicts from the forms of rows late on and off by so many ticks at most to the fewest timers, and parts."""
    timers, parts = {}, {}
    for many in range(ticks + 1):
        for row in set(all_timers(many)):
            shape = form(row)
            timers[shape] = min(timers.get(shape, 99), len(row))
            for delay in range((ticks - many) // 2 + 1):
                later = form(row + (("delay", delay),))
                parts[later] = min(parts.get(later, 99), len(row) + (delay > 0))
    return timers, parts


def is_long_row(value):
    """Return whether value is a row but for its length and ticks."""
    return type(value) is tuple and all(
        part == TURN or (len(part) == 2 and part[0] in ("on", "off", "delay") and type(part[1]) is int and part[1] >= 0)
        for part in value)


class TestRowOf(unittest.TestCase):
    def test_forms_of_rows(self):
        rng = random.Random(1)
        for _ in range(1500):
            row = some_row(rng, rng.randint(0, 40), rng.choice((1, 4, 30, TOP)))
            told = row_of(form(row))
            self.assertTrue(is_long_row(told))
            self.assertEqual(form(told), form(row), row)

    def test_it_does_the_same(self):
        rng = random.Random(2)
        for _ in range(300):
            row, signal = some_row(rng, rng.randint(0, 9), 4), signal_of(train_strip(rng, 8))
            shape = form(row)
            for built in (row_of(shape), fewest_parts(shape)):
                self.assertTrue(alike(built, row))
                self.assertEqual(answer(built, signal), answer(row, signal))

    def test_forms_of_longer_rows(self):
        swings = tuple((("on", "off")[k % 2], 1 + k) for k in range(900))
        for row in (swings, swings + (TURN,), scaled_row(swings, TOP), (TURN,) + swings + (("delay", 10 ** 90),)):
            self.assertEqual(form(row_of(form(row))), form(row))
            self.assertEqual(form(fewest_parts(form(row))), form(row))

    def test_nothing_to_do(self):
        self.assertEqual(row_of((False, 0, 0, ())), ())
        self.assertEqual(row_of((True, 0, 0, ())), (TURN,))


class TestFewestParts(unittest.TestCase):
    def test_beside_all_rows_of_a_few_ticks(self):
        _, parts = fewest_of(13)
        self.assertGreater(len(parts), 500)
        for shape, many in parts.items():
            told = fewest_parts(shape)
            self.assertEqual(len(told), many, shape)
            self.assertEqual(form(told), shape)
            turned = fewest_parts((True,) + shape[1:])
            self.assertEqual(len(turned), many + 1, shape)
            self.assertEqual(form(turned), (True,) + shape[1:])

    def test_no_row_has_fewer(self):
        rng = random.Random(3)
        for _ in range(2000):
            row = some_row(rng, rng.randint(0, 8), rng.choice((1, 4, TOP)))
            self.assertLessEqual(len(fewest_parts(form(row))), len(row), row)

    def test_each_part_by_itself(self):
        # The stages, where their straight walk ends, and how far it goes up.
        for steps, end, up in (((("drop", 4),), 4, 4), ((("drop", 4), ("fill", 3)), -3, 4),
                               ((("fill", 1), ("drop", 2)), 2, 3)):
            for delay, height, turned in itertools.product((0, 1, TOP), range(0, 3), (False, True)):
                late_on = up + delay + max(0, height - end)
                shape = (turned, late_on, late_on - height, steps)
                many = len(steps) + (height != end) + (delay > 0) + turned
                self.assertEqual(len(fewest_parts(shape)), many, shape)
                self.assertEqual(form(fewest_parts(shape)), shape)

    def test_no_stages(self):
        for ticks in (0, 1, 10 ** 60):
            for turned in (False, True):
                told = fewest_parts((turned, ticks, ticks, ()))
                self.assertEqual(len(told), (ticks > 0) + turned)
                self.assertEqual(form(told), (turned, ticks, ticks, ()))


class TestFewestTimers(unittest.TestCase):
    def check(self, shape, many):
        told = fewest_timers(shape)
        self.assertTrue(is_long_row(told))
        self.assertEqual(form(told), shape)
        self.assertEqual([part[0] for part in told].count("turn"), int(shape[0]))
        self.assertEqual([part[0] for part in told].count("delay"), 0)
        self.assertEqual(len(told), many + shape[0], shape)

    def test_beside_all_rows_of_a_few_ticks(self):
        timers, parts = fewest_of(14)
        self.assertGreater(len(timers), 500)
        for shape, many in timers.items():
            self.check(shape, many)
            self.check((True,) + shape[1:], many)
        for shape in parts:
            if shape not in timers:
                self.assertEqual(shape[3], ())
                self.assertRaises(NoRow, fewest_timers, shape)

    def test_no_row_of_timers_has_fewer(self):
        rng = random.Random(4)
        for _ in range(2000):
            row = some_row(rng, rng.randint(0, 20), rng.choice((1, 2, 5, TOP)), ("on", "off"))
            if form(row)[3] or not form(row)[1]:
                told = fewest_timers(form(row))
                self.assertLessEqual(len(told), len(row), row)
                self.assertEqual(form(told), form(row))

    def test_from_the_top(self):
        # Up by 5: with L = 0 there are 5 ticks of room below.
        for height in range(6):
            for spare in range(60):
                odd = [p for p in range(1, 99, 2) if height != 5 and (p - 1) // 2 <= spare <= (p - 1) // 2 * 5]
                even = [p for p in range(2, 99, 2) if height > 0 and p // 2 <= spare <= (p - 2) // 2 * 5 + height]
                none = [0] if height == 5 and spare == 0 else []
                late_on = 5 + spare
                self.check((False, late_on, late_on - height, (("drop", 5),)), 1 + min(none + odd + even))

    def test_from_the_bottom(self):
        # Up by 2 and down to -3: 5 ticks of room above.
        for height in range(-3, 3):
            for spare in range(60):
                odd = [p for p in range(1, 99, 2) if height != -3 and (p - 1) // 2 <= spare <= (p - 1) // 2 * 5]
                even = [p for p in range(2, 99, 2) if height < 2 and p // 2 <= spare <= (p - 2) // 2 * 5 + 2 - height]
                none = [0] if height == -3 and spare == 0 else []
                late_on = 2 + height + 3 + spare
                self.check((True, late_on, late_on - height, (("drop", 2), ("fill", 3))), 2 + min(none + odd + even))

    def test_no_row(self):
        for ticks in (1, 7, TOP, 10 ** 399):
            for turned in (False, True):
                with self.assertRaises(WireError) as caught:
                    fewest_timers((turned, ticks, ticks, ()))
                self.assertIs(type(caught.exception), NoRow)
        self.assertEqual(fewest_timers((False, 0, 0, ())), ())
        self.assertEqual(fewest_timers((True, 0, 0, ())), (TURN,))

    def check_too_many(self, shape):
        with self.assertRaises(WireError) as caught:
            fewest_timers(shape)
        self.assertIs(type(caught.exception), TooMany)
        self.assertEqual(caught.exception.limit, 400)
        # Rows with delays are there all the same.
        self.assertEqual(form(row_of(shape)), shape)

    def test_four_hundred_timers_and_one_more(self):
        for by in (1, 7, TOP):
            for turned in (False, True):
                # One stage, and its end is the end: 2 timers come back by a room of by ticks at most.
                most = 199 * by
                self.check((turned, by + most, most, (("drop", by),)), 399)
                self.check_too_many((turned, by + most + 1, most + 1, (("drop", by),)))
                # Down to 0 in the end: one timer does that, so 400 in all.
                self.check((turned, by + most, by + most, (("drop", by),)), 400)
                self.check_too_many((turned, by + most + 1, by + most + 1, (("drop", by),)))
                self.check((turned, most, by + most, (("fill", by),)), 399)
                self.check_too_many((turned, most + 1, by + most + 1, (("fill", by),)))

    def test_many_stages(self):
        for many in (398, 399, 400, 401, 1200):
            swings = tuple((("on", "off")[k % 2], 1 + k) for k in range(many))
            for row, further in ((swings, 0), (swings + (("on", 1) if many % 2 == 0 else ("off", 1),), 1),
                                 (swings + (("delay", 1),), 2)):
                for turns in ((), (TURN,)):
                    shape = form(row + turns)
                    self.assertEqual(len(shape[3]), many)
                    if many + further <= 400:
                        self.check(shape, many + further)
                    else:
                        self.check_too_many(shape)

    def test_great_lateness(self):
        self.check_too_many((False, 10 ** 399, 10 ** 399, (("drop", 1),)))
        self.check((False, 10 ** 399, 10 ** 399 - TOP, (("drop", 10 ** 398),)), 20)
        self.check((False, 10 ** 399, 0, (("drop", 10 ** 399),)), 1)

    def test_great_ticks_as_small_ones(self):
        rng = random.Random(5)
        for _ in range(300):
            row = some_row(rng, rng.randint(1, 9), 4, ("on", "off"))
            shape = form(row)
            if shape[3]:
                great = form(scaled_row(row, TOP))
                self.assertEqual(form(fewest_timers(great)), great)
                self.assertLessEqual(len(fewest_timers(great)), len(fewest_timers(shape)))


class TestBadForms(unittest.TestCase):
    def check(self, value):
        for build in ALL:
            with self.assertRaises(WireError) as caught:
                build(value)
            self.assertIs(type(caught.exception), BadForm, value)
            self.assertEqual(repr(caught.exception.error), repr(form_error(value)))

    def test_values_of_all_kinds(self):
        for value in VALUES:
            if form_error(value) is not None:
                self.check(value)

    def test_each_error(self):
        for value, error in (((0, 0, 0, ()), "form"), ((False, 9, 9, (("drop", 0),)), ("stage", 0)),
                             ((False, 9, 9, (("drop", 2), ("drop", 3))), ("stage", 1)),
                             ((False, 3, 3, (("drop", 4),)), "late"), ((False, 1, 2, ()), "late")):
            self.assertEqual(form_error(value), error)
            self.check(value)

    def test_what_is_near_a_form(self):
        rng = random.Random(6)
        for _ in range(12):
            for value in near(form(some_row(rng, 4, 3))):
                if form_error(value) is not None:
                    self.check(value)
                else:
                    self.assertEqual(form(row_of(value)), value)
                    self.assertEqual(form(fewest_parts(value)), value)

    def test_bad_forms_come_first(self):
        # No row without a delay would have this, nor one with so few timers; but it is no form at all.
        self.check((False, 9, 8, ()))
        self.check((False, 10 ** 99, 10 ** 99 + 5, (("drop", 1),)))


class TestConventions(unittest.TestCase):
    def test_arguments_by_name(self):
        for build in ALL:
            self.assertEqual(build(shape=(True, 0, 0, ())), (TURN,))

    def test_equal_calls_get_equal_results_and_change_nothing(self):
        rng = random.Random(7)
        for _ in range(40):
            shape = form(some_row(rng, 6, 3, ("on", "off", "turn")))
            ahead = repr(shape)
            for build in (row_of, fewest_parts):
                self.assertEqual(repr(build(shape)), repr(build(shape)))
            if shape[3]:
                self.assertEqual(repr(fewest_timers(shape)), repr(fewest_timers(shape)))
            self.assertEqual(repr(shape), ahead)
        value = [False, {}, []]
        self.assertRaises(BadForm, row_of, value)
        self.assertEqual(value, [False, {}, []])


if __name__ == "__main__":
    unittest.main()
