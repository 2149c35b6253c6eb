"""The forms of rows of so many ticks, and how many they are, beside all such rows."""

import itertools
import unittest

from latewires.counting import effect_count, effects
from latewires.errors import TooMany, WireError
from latewires.forms import form_error
from latewires.walks import form
from tests.test_building import all_timers

COUNTS = [1, 2, 4, 8, 14, 22, 34, 50, 72, 100, 138, 186, 248]


def ascending(total, above):
    """Yield all ascending rows of integers above some integer with a sum of at most total."""
    yield ()
    for first in range(above + 1, total + 1):
        for behind in ascending(total - first, first):
            yield (first, *behind)


def counted(ticks):
    """Return how many forms there are, as the document counts them: row by row."""
    rows = 0
    for row in ascending(ticks, 0):
        left = ticks - sum(row)
        rows += len([last for last in range(1, left + 1) if (left - last) % 2 == 0])
    return 2 * rows


class TestEffects(unittest.TestCase):
    def test_beside_all_rows(self):
        for ticks in range(13):
            told = effects(ticks)
            self.assertIs(type(told), tuple)
            self.assertEqual(told, tuple(sorted({form(row) for row in all_timers(ticks)})))

    def test_all_ways_to_go_a_few_ticks(self):
        for ticks in range(8):
            ways = itertools.product((("on", 1), ("off", 1)), repeat=ticks)
            self.assertEqual(list(effects(ticks)), sorted({form(way) for way in ways}))
        # Of four ticks two pairs of ways do the same.
        pairs = [("on", "on", "off", "on"), ("on", "off", "on", "on")]
        for words in pairs + [tuple({"on": "off", "off": "on"}[word] for word in words) for words in pairs]:
            self.assertIn(form(tuple((word, 1) for word in words)), effects(4))
        self.assertEqual(len(effects(4)), 2 ** 4 - 2)

    def test_each_is_a_form_of_so_many_ticks(self):
        for ticks in range(13):
            told = effects(ticks)
            for shape in told:
                self.assertEqual([type(item) for item in shape], [bool, int, int, tuple])
                self.assertIsNone(form_error(shape))
                self.assertEqual(shape[1] + shape[2], ticks)
                self.assertFalse(shape[0])
            for shape, behind in zip(told, told[1:]):
                self.assertLess(shape, behind)

    def test_the_ends(self):
        self.assertEqual(effects(0), ((False, 0, 0, ()),))
        self.assertEqual(effects(1), ((False, 0, 1, (("fill", 1),)), (False, 1, 0, (("drop", 1),))))
        for ticks in range(1, 13):
            self.assertEqual(effects(ticks)[0], (False, 0, ticks, (("fill", ticks),)))
            self.assertEqual(effects(ticks)[-1], (False, ticks, 0, (("drop", ticks),)))

    def test_the_bound(self):
        self.assertEqual(len(effects(12)), 248)
        for ticks in (13, 14, 300, 10 ** 30, 10 ** 400):
            with self.assertRaises(WireError) as caught:
                effects(ticks)
            self.assertIs(type(caught.exception), TooMany)
            self.assertEqual(caught.exception.limit, 12)


class TestEffectCount(unittest.TestCase):
    def test_how_many_effects(self):
        self.assertEqual([effect_count(ticks) for ticks in range(13)], COUNTS)
        self.assertEqual([len(effects(ticks)) for ticks in range(13)], COUNTS)

    def test_beside_rows_counted_one_by_one(self):
        for ticks in range(1, 46):
            self.assertEqual(effect_count(ticks), counted(ticks), ticks)

    def test_beside_all_rows_of_more_ticks(self):
        for ticks in (13, 14):
            self.assertEqual(effect_count(ticks), len({form(row) for row in all_timers(ticks)}))

    def test_kinds(self):
        for ticks in (0, 1, 12, 13, 300):
            self.assertIs(type(effect_count(ticks)), int)

    def test_the_bound(self):
        # How many ascending rows have each sum, by another count: with or without each integer in turn.
        sums = {0: 1}
        for item in range(1, 301):
            longer = dict(sums)
            for total, many in sums.items():
                if total + item <= 300:
                    longer[total + item] = longer.get(total + item, 0) + many
            sums = longer
        for ticks in (299, 300):
            rows = sum(many * len(range(ticks - total, 0, -2)) for total, many in sums.items() if total < ticks)
            self.assertEqual(effect_count(ticks), 2 * rows)
        for ticks in (301, 302, 10 ** 30, 10 ** 400):
            with self.assertRaises(WireError) as caught:
                effect_count(ticks)
            self.assertIs(type(caught.exception), TooMany)
            self.assertEqual(caught.exception.limit, 300)


class TestConventions(unittest.TestCase):
    def test_arguments_by_name(self):
        self.assertEqual(effects(ticks=0), ((False, 0, 0, ()),))
        self.assertEqual(effect_count(ticks=4), 14)

    def test_equal_calls_get_equal_results(self):
        self.assertEqual(repr(effects(9)), repr(effects(9)))
        self.assertEqual(effect_count(99), effect_count(99))


if __name__ == "__main__":
    unittest.main()
