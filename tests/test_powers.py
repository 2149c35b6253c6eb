"""Rows done many times, beside rows that are written out so often."""

import itertools
import random
import unittest

from latewires.answers import answer
from latewires.building import row_of
from latewires.forms import form_error
from latewires.powers import power_form, settles
from latewires.walks import form
from tests.models import moved, scaled_row, signal_of, some_row, train_strip

TURN = ("turn",)
TOP = 10 ** 30
UP, DEEP, EVEN, BACK = (("on", 3), ("off", 1)), (("on", 2), ("off", 5)), (("off", 1), ("on", 3), ("off", 2)), (("on", 2), TURN)
SMALL = [TURN] + [(word, ticks) for word in ("on", "off") for ticks in (1, 2, 3)] + [("delay", 1)]
SMALL_ROWS = [row for many in range(4) for row in itertools.product(SMALL, repeat=many)]


def drift(row):
    """Return how far a row that is not turned leads the walk up."""
    return form(row)[1] - form(row)[2]


class TestPowerForm(unittest.TestCase):
    def test_small_rows_written_out(self):
        for row in SMALL_ROWS:
            for times in range(7):
                self.assertEqual(power_form(row, times), form(row * times), (row, times))

    def test_rows_written_out(self):
        rng = random.Random(1)
        seen = set()
        for _ in range(1500):
            row, times = some_row(rng, rng.randint(0, 9), 5), rng.randint(0, 9)
            self.assertEqual(power_form(row, times), form(row * times), (row, times))
            seen.add((form(row)[0], (drift(row) > 0) - (drift(row) < 0), times % 2))
        self.assertEqual(len(seen), 12)

    def test_forty_parts_written_out(self):
        rng = random.Random(2)
        for words in (("on", "off"), ("on", "off", "delay", "turn")):
            for most in (4, TOP):
                for _ in range(20):
                    row, times = some_row(rng, 40, most, words), rng.randint(0, 30)
                    self.assertEqual(power_form(row, times), form(row * times))

    def test_a_thousand_times_written_out(self):
        rng = random.Random(3)
        for row in (UP, DEEP, EVEN, BACK, UP + (TURN,), some_row(rng, 9, 7), ()):
            for times in (999, 1000):
                self.assertEqual(power_form(row, times), form(row * times))

    def test_so_many_times_and_so_many_again(self):
        """[H5]"""
        rng = random.Random(4)
        for _ in range(600):
            row = some_row(rng, rng.randint(0, 8), rng.choice((4, TOP)))
            for one, other in ((1, 1), (2, 3), (1, 10 ** 29), (3, TOP - 3), (10 ** 29, 9 * 10 ** 29 - 1)):
                first, second = power_form(row, one), power_form(row, other)
                self.assertIsNone(form_error(first))
                self.assertEqual(form(row_of(first) + row_of(second)), power_form(row, one + other), (row, one, other))

    def test_the_number_of_the_last_stage(self):
        for times in (2, 7, TOP - 1, TOP):
            self.assertEqual(power_form(UP, times), (False, 3 * times, times, (("drop", 2 * times + 1),)))
            self.assertEqual(power_form(DEEP, times), (False, 2 * times, 5 * times, (("drop", 2), ("fill", 3 * times))))
            self.assertEqual(power_form(EVEN, times), (False, 3 * times, 3 * times, (("fill", 1), ("drop", 2))))
            # The last stage of the row itself is a fill: the drop stands behind it.
            row = (("on", 5), ("off", 7), ("on", 4))
            self.assertEqual(power_form(row, times),
                             (False, 9 * times, 7 * times, (("drop", 5), ("fill", 2), ("drop", 2 * times + 3))))

    def test_odd_and_even(self):
        for pairs in (1, 2, TOP // 2 - 1):
            self.assertEqual(power_form(BACK, 2 * pairs), (False, 2 * pairs, 2 * pairs, (("drop", 2),)))
            self.assertEqual(power_form(BACK, 2 * pairs + 1), (True, 2 * pairs + 2, 2 * pairs, (("drop", 2),)))
            row = (("off", 3), ("on", 5), TURN, ("delay", 4))
            self.assertEqual(power_form(row, 2 * pairs)[:3], (False, 16 * pairs, 16 * pairs))
            self.assertEqual(power_form(row, 2 * pairs + 1)[:3], (True, 16 * pairs + 9, 16 * pairs + 7))
            self.assertEqual(power_form(row, 2 * pairs)[3], form(row + row)[3])

    def test_no_time_and_one(self):
        rng = random.Random(5)
        for _ in range(200):
            row = some_row(rng, rng.randint(0, 40), rng.choice((4, TOP)))
            self.assertEqual(power_form(row, 0), (False, 0, 0, ()))
            self.assertEqual(power_form(row, 1), form(row))

    def test_scaled(self):
        rng = random.Random(6)
        for _ in range(200):
            row, times = some_row(rng, 7, 5), rng.randint(0, 9)
            is_turned, late_on, late_off, steps = form(row * times)
            by = TOP // 5
            self.assertEqual(power_form(scaled_row(row, by), times),
                             (is_turned, late_on * by, late_off * by, tuple((word, k * by) for word, k in steps)))

    def test_kinds(self):
        for row, times in itertools.product((UP, BACK, ()), (0, 1, 2, 3)):
            is_turned, late_on, late_off, steps = power_form(row, times)
            self.assertEqual([type(is_turned), type(late_on), type(late_off), type(steps)], [bool, int, int, tuple])


class TestSettles(unittest.TestCase):
    def test_as_told(self):
        """Told by rows written out: a further time leaves the stages and delays, or it never does."""
        seen = set()
        for row in SMALL_ROWS:
            forms = [form(row * times) for times in range(6)]
            settled = [n for n in range(5) if forms[n][0] == forms[n + 1][0] and forms[n][3] == forms[n + 1][3]
                       and forms[n + 1][1] - forms[n][1] == forms[n + 1][2] - forms[n][2]]
            told = settles(row)
            self.assertEqual(told, settled[0] if settled else None, row)
            self.assertIn(type(told), (int, type(None)))
            seen.add(told)
        self.assertEqual(seen, {0, 1, None})

    def test_beside_answers(self):
        rng = random.Random(7)
        for _ in range(400):
            row = some_row(rng, rng.randint(0, 6), 3)
            told = settles(row)
            if told is not None:
                for _ in range(3):
                    signal = signal_of(train_strip(rng, 7))
                    after = answer(row * told, signal)
                    self.assertEqual(answer(row, after), moved(after, form(row)[1]))

    def test_each_kind(self):
        for row, told in (((), 0), ((("delay", TOP),) * 40, 0), ((("on", 0), ("off", 0)), 0), ((TURN, TURN), 0),
                          (EVEN, 1), ((("on", TOP), ("off", TOP)) * 20, 1), (BACK * 2, 1), ((TURN, ("on", 1)) * 2, 1),
                          (UP, None), (DEEP, None), (BACK, None), ((TURN,), None), ((("on", TOP), ("off", TOP), TURN), None),
                          ((("on", TOP),) * 20 + (("off", TOP),) * 19 + (("off", TOP - 1),), None)):
            self.assertEqual(settles(row), told, row)


class TestConventions(unittest.TestCase):
    def test_arguments_by_name(self):
        self.assertEqual(power_form(row=UP, times=2), (False, 6, 2, (("drop", 5),)))
        self.assertEqual(settles(row=EVEN), 1)

    def test_equal_calls_get_equal_results_and_change_nothing(self):
        rng = random.Random(8)
        for _ in range(60):
            row, times = some_row(rng, 6, 4), rng.randint(0, 9)
            ahead = repr(row)
            self.assertEqual(repr(power_form(row, times)), repr(power_form(row, times)))
            self.assertEqual(settles(row), settles(row))
            self.assertEqual(repr(row), ahead)


if __name__ == "__main__":
    unittest.main()
