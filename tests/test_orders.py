"""Which rows are alike and which lie within others, beside answers tick by tick."""

import itertools
import random
import unittest

from latewires.answers import answer
from latewires.orders import alike, dropped_ahead, filled_ahead, shifts, within
from latewires.walks import form, stages
from tests.models import all_strips, row_strips, scaled_row, signal_of, some_row, strip_at, train_strip
from tests.test_meanings import SIGNALS, some_steps

TURN = ("turn",)
TOP = 10 ** 30
STEADY, WIDE = (("on", 4), ("off", 4)), (("off", 4), ("on", 4))
TWICE, BACK = (("on", 2), ("off", 4), ("on", 2)), (("off", 2), ("on", 4), ("off", 2))
SMALL = [TURN] + [(word, ticks) for word in ("on", "off") for ticks in (1, 2)] + [("delay", 1)]


def most_ahead(steps, word, bound):
    """Return what filled_ahead, or dropped_ahead, tells, as the document says it."""
    stops = [place for place, (kind, number) in enumerate(steps) if kind != word and number > bound]
    ahead = steps[:stops[0]] if stops else steps
    return max([0] + [number for kind, number in ahead if kind == word])


def all_on(row, strip, first, last):
    """Return the list of whether the answer, counted tick by tick, is on at the ticks from first to last."""
    after = row_strips(row, strip)[-1] if row else strip
    return [strip_at(after, tick) for tick in range(first, last + 1)]


class TestAhead(unittest.TestCase):
    def test_as_told(self):
        rng = random.Random(1)
        for _ in range(800):
            steps = some_steps(rng)
            for bound in range(20):
                self.assertEqual(filled_ahead(steps, bound), most_ahead(steps, "fill", bound), (steps, bound))
                self.assertEqual(dropped_ahead(steps, bound), most_ahead(steps, "drop", bound), (steps, bound))

    def test_at_a_number_and_one_beside_it(self):
        steps = (("fill", 2), ("drop", TOP), ("fill", TOP + 1), ("drop", TOP + 5))
        self.assertEqual([filled_ahead(steps, k) for k in (0, TOP - 1, TOP, TOP + 4, TOP + 5, 10 ** 60)],
                         [2, 2, TOP + 1, TOP + 1, TOP + 1, TOP + 1])
        self.assertEqual([dropped_ahead(steps, l) for l in (0, 1, 2, TOP, TOP + 1, 10 ** 60)],
                         [0, 0, TOP, TOP, TOP + 5, TOP + 5])

    def test_no_stages(self):
        self.assertEqual([filled_ahead((), 0), dropped_ahead((), 0), filled_ahead((), TOP)], [0, 0, 0])
        self.assertEqual([filled_ahead((("drop", 3),), 0), filled_ahead((("drop", 3),), 9)], [0, 0])
        self.assertEqual([dropped_ahead((("fill", 3),), 0), dropped_ahead((("fill", 3),), 9)], [0, 0])


class TestAlike(unittest.TestCase):
    def test_small_rows_beside_all_small_signals(self):
        # Rows that answer alike to all of these are alike, and the other way about.
        strips = list(all_strips(9))
        told = {}
        rows = [row for many in range(3) for row in itertools.product(SMALL, repeat=many)]
        for row in rows:
            told[row] = [answer(row, signal_of(strip)) for strip in strips]
        for one, other in itertools.product(rows, repeat=2):
            self.assertEqual(alike(one, other), told[one] == told[other], (one, other))

    def test_alike_exactly_if_the_forms_are_one(self):
        rng = random.Random(2)
        pairs = 0
        for _ in range(4000):
            one, other = some_row(rng, rng.randint(0, 4), 2), some_row(rng, rng.randint(0, 4), 2)
            self.assertEqual(alike(one, other), form(one) == form(other))
            if alike(one, other):
                pairs += 1
                for signal in rng.sample(SIGNALS, 4):
                    self.assertEqual(answer(one, signal), answer(other, signal))
        self.assertGreater(pairs, 100)

    def test_alike_rows(self):
        self.assertTrue(alike((("on", 2), ("off", 1), ("on", 1)), (("delay", 1), ("on", 2))))
        self.assertTrue(alike((TURN, ("on", TOP)), (("off", TOP), TURN)))
        self.assertTrue(alike((), (TURN, TURN)))
        self.assertTrue(alike((), (("on", 0), ("delay", 0), ("off", 0))))
        self.assertTrue(alike((("on", TOP),) * 40, (("on", TOP),) * 40))

    def test_rows_that_are_unlike_in_one_thing(self):
        row = (("on", 3), ("off", 5), ("delay", 2), ("on", 1))
        for other in (row + (TURN,), row + (("delay", 1),), row + (("on", 1),), row + (("off", 1),), STEADY, (),
                      (("on", 3), ("off", 5), ("on", 4), ("off", 3), ("delay", 2))):
            self.assertFalse(alike(row, other))
            self.assertFalse(alike(other, row))
        self.assertFalse(alike((("on", TOP),) * 40, (("on", TOP),) * 39 + (("on", TOP - 1),)))
        self.assertFalse(alike(STEADY, WIDE))


class TestWithin(unittest.TestCase):
    def test_small_rows_beside_all_small_signals(self):
        strips = list(all_strips(8))
        rows = [row for many in range(3) for row in itertools.product(SMALL, repeat=many)]
        on = {row: [all_on(row, strip, -8, 10) for strip in strips] for row in rows}
        bits = {row: int("".join("01"[tick] for ticks in on[row] for tick in ticks), 2) for row in rows}
        for one, other in itertools.product(rows, repeat=2):
            self.assertEqual(within(one, other), not bits[one] & ~bits[other], (one, other))

    def test_longer_rows_with_trains(self):
        rng = random.Random(3)
        seen = {True: 0, False: 0}
        for _ in range(1500):
            one = some_row(rng, rng.randint(1, 6), 3, ("on", "off", "on", "off", "delay"))
            other = tuple(part for part in one if rng.random() < 0.8) if rng.random() < 0.8 else some_row(rng, 5, 3)
            if rng.random() < 0.3:
                one, other = one + (TURN,), (TURN,) + other
            seen[within(one, other)] += 1
            if within(one, other):
                for _ in range(4):
                    strip = train_strip(rng, 5)
                    for first, second in zip(all_on(one, strip, -9, 90), all_on(other, strip, -9, 90)):
                        self.assertLessEqual(first, second, (one, other, strip))
        self.assertGreater(min(seen.values()), 150)

    def test_turned_rows(self):
        # With both turned it is the other way about; with one turned never.
        rng = random.Random(4)
        for _ in range(500):
            one, other = (some_row(rng, 3, 2, ("on", "off", "delay")) for _ in range(2))
            self.assertEqual(within(one + (TURN,), other + (TURN,)), within(other, one))
            self.assertFalse(within(one + (TURN,), other))
            self.assertFalse(within(one, other + (TURN,)))
            self.assertEqual(within(one + (TURN, TURN), other), within(one, other))

    def test_one_thing_amiss(self):
        self.assertTrue(within((("on", 3),), (("on", 3),)))
        self.assertTrue(within((("on", TOP),), (("on", TOP - 1),)))
        self.assertFalse(within((("on", TOP - 1),), (("on", TOP),)))
        self.assertTrue(within((("off", TOP - 1),), (("off", TOP),)))
        self.assertFalse(within((("off", TOP),), (("off", TOP - 1),)))
        self.assertTrue(within((), (("off", 1),)))
        self.assertFalse(within((("off", 1),), ()))
        self.assertTrue(within((("on", 1),), ()))
        self.assertFalse(within((), (("on", 1),)))
        # Late on and off alike, and only the stages tell.
        self.assertTrue(within(STEADY, (("delay", 4),)))
        self.assertTrue(within((("delay", 4),), WIDE))
        self.assertFalse(within((("delay", 4),), STEADY))
        self.assertFalse(within(WIDE, (("delay", 4),)))
        self.assertTrue(within(TWICE, BACK))
        self.assertFalse(within(BACK, TWICE))

    def test_what_holds(self):
        """[D6]"""
        rng = random.Random(5)
        rows = [some_row(rng, rng.randint(0, 4), 2) for _ in range(60)]
        lie = {(one, other) for one in rows for other in rows if within(one, other)}
        for one in rows:
            self.assertTrue(within(one, one))
        for one, other in itertools.product(rows, repeat=2):
            self.assertEqual(alike(one, other), (one, other) in lie and (other, one) in lie)
        for (one, other), (after, last) in itertools.product(lie, repeat=2):
            if other == after:
                self.assertIn((one, last), lie)
        for one, other in sorted(lie)[:200]:
            row = rng.choice(rows)
            self.assertTrue(within(row + one, row + other))
            turned = row.count(TURN) % 2 == 1
            self.assertTrue(within(other + row, one + row) if turned else within(one + row, other + row))

    def test_great_ticks_as_small_ones(self):
        rng = random.Random(6)
        for _ in range(500):
            one, other = some_row(rng, 4, 2), some_row(rng, 4, 2)
            great = [scaled_row(row, TOP // 2) for row in (one, other)]
            self.assertEqual(within(*great), within(one, other))
            self.assertEqual(alike(*great), alike(one, other))


class TestShifts(unittest.TestCase):
    def fits(self, one, other, later):
        if later >= 0:
            return within(one + (("delay", later),), other)
        return within(one, other + (("delay", -later),))

    def test_beside_delays(self):
        rng = random.Random(7)
        seen = set()
        for _ in range(1500):
            one, other = some_row(rng, rng.randint(0, 4), 2), some_row(rng, rng.randint(0, 4), 2)
            fit = [later for later in range(-20, 21) if self.fits(one, other, later)]
            told = shifts(one, other)
            self.assertEqual(told, (fit[0], fit[-1]) if fit else None, (one, other))
            if fit:
                self.assertEqual(fit, list(range(fit[0], fit[-1] + 1)))
            seen.add((told is None, form(one)[0], form(other)[0]))
        self.assertEqual(len(seen), 6)

    def test_beside_answers(self):
        rng = random.Random(8)
        for _ in range(300):
            one, other = some_row(rng, 3, 2), some_row(rng, 3, 2)
            told = shifts(one, other)
            if told is None:
                continue
            for later in told:
                strip = train_strip(rng, 6)
                first = all_on(one, strip, -9 - later, 60 - later)
                for on, is_on in zip(first, all_on(other, strip, -9, 60)):
                    self.assertLessEqual(on, is_on)

    def test_great_ticks(self):
        self.assertEqual(shifts((("on", TOP),), ()), (-TOP, 0))
        self.assertEqual(shifts((), (("off", TOP),) * 40), (0, 40 * TOP))
        self.assertEqual(shifts((("delay", TOP),) * 40, ()), (-40 * TOP, -40 * TOP))
        self.assertEqual(shifts((), (("delay", TOP),) * 40), (40 * TOP, 40 * TOP))
        self.assertEqual(shifts((TURN, ("on", TOP)), (TURN,)), (-TOP, 0))
        self.assertIsNone(shifts((TURN,), (TURN, ("on", TOP))))

    def test_none(self):
        self.assertIsNone(shifts((), STEADY))
        self.assertIsNone(shifts(WIDE, ()))
        self.assertIsNone(shifts((), (TURN,)))
        self.assertIsNone(shifts((TURN,), ()))
        # Here the stages let it, but the latenesses do not.
        one, other = (("on", 5), ("off", 4)), (("on", 5), ("off", 5))
        self.assertEqual(stages(one), stages(other))
        self.assertEqual(shifts(one, other), (0, 1))
        self.assertIsNone(shifts(other, one))


class TestConventions(unittest.TestCase):
    def test_arguments_by_name(self):
        steps = (("drop", 2), ("fill", 3), ("drop", 5))
        self.assertEqual(filled_ahead(steps=steps, k=2), 3)
        self.assertEqual(dropped_ahead(steps=steps, l=3), 5)
        self.assertIs(alike(one=STEADY, other=WIDE), False)
        self.assertIs(within(one=STEADY, other=WIDE), True)
        self.assertEqual(shifts(one=STEADY, other=()), (-4, -4))

    def test_kinds(self):
        self.assertIs(type(alike(STEADY, STEADY)), bool)
        self.assertIs(type(within(STEADY, STEADY)), bool)
        self.assertEqual([type(item) for item in shifts(STEADY, STEADY)], [int, int])
        self.assertIs(type(shifts(STEADY, STEADY)), tuple)

    def test_equal_calls_get_equal_results_and_change_nothing(self):
        rng = random.Random(9)
        for _ in range(60):
            one, other = some_row(rng, 5, 3), some_row(rng, 5, 3)
            ahead = repr((one, other))
            for call in (alike, within, shifts):
                self.assertEqual(repr(call(one, other)), repr(call(one, other)))
            self.assertEqual(repr((one, other)), ahead)


if __name__ == "__main__":
    unittest.main()
