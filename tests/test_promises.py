"""What rows do to signals that keep a promise, beside answers tick by tick."""

import itertools
import random
import unittest

from latewires.answers import answer
from latewires.meanings import meant
from latewires.papers import beyond_holds
from latewires.promises import alike_for, beyond_for, form_for, keeps, undone_by, within_for
from latewires.rows import row_error
from latewires.signals import is_on, signal_error
from latewires.walks import form, heights
from tests.models import (
    all_strips, keeping, long_signal, moved, row_strips, scaled_row, signal_of, some_row, strip_at, train_strip,
)

TURN = ("turn",)
TOP = 10 ** 30
ON, OFF = (0, (), 0), (None, (), None)
ROW, STEADY, WIDE = (("on", 3), ("off", 5), ("delay", 2), ("on", 1)), (("on", 4), ("off", 4)), (("off", 4), ("on", 4))
SMALL = [TURN] + [(word, ticks) for word in ("on", "off") for ticks in (1, 2)] + [("delay", 1)]
SMALL_ROWS = [row for many in range(3) for row in itertools.product(SMALL, repeat=many)]
PROMISES = list(itertools.product((1, 2, 3, 4), repeat=2))


def walked_stages(row, ons, offs):
    """Return the stages of a walk gone tick by tick, as it is told: ahead of it ons - 1 and offs - 1 were come to."""
    made, height, way = [], 0, 1
    top, depth = ons - 1, offs - 1
    for part in row:
        if part == TURN:
            way = -way
        elif part[0] != "delay":
            for _ in range(part[1]):
                height += way if part[0] == "on" else -way
                if height > top:
                    top, stage = height, ("drop", height)
                elif -height > depth:
                    depth, stage = -height, ("fill", -height)
                else:
                    continue
                if made and made[-1][0] == stage[0]:
                    made.pop()
                made.append(stage)
    return tuple(made)


def kept_strip(rng, ons, offs, pieces):
    """Return a strip that keeps the promise, by a random source."""
    left = rng.random() < 0.5
    ticks = [left] * rng.randint(1, 3)
    now = left
    for _ in range(pieces):
        now = not now
        ticks += [now] * ((ons if now else offs) + rng.choice((0, 0, 0, 1, 2, 5)))
    ticks += [not now]
    return left, ticks


class TestKeeps(unittest.TestCase):
    def test_each_small_signal(self):
        for strip in all_strips(9):
            signal = signal_of(strip)
            for ons, offs in itertools.product(range(1, 6), repeat=2):
                self.assertIs(keeps(signal, ons, offs), keeping(strip, ons, offs), (signal, ons, offs))

    def test_trains(self):
        rng = random.Random(1)
        seen = {True: 0, False: 0}
        for _ in range(2000):
            ons, offs = rng.randint(1, 4), rng.randint(1, 4)
            strip = kept_strip(rng, ons, offs, 9) if rng.random() < 0.5 else train_strip(rng, 4)
            seen[keeping(strip, ons, offs)] += 1
            self.assertIs(keeps(signal_of(strip), ons, offs), keeping(strip, ons, offs))
        self.assertGreater(min(seen.values()), 300)

    def test_just_kept_and_just_not(self):
        for on, off in ((1, 1), (4, 7), (TOP, TOP + 1), (10 ** 59, 10 ** 59 - 1)):
            for signal in ((None, ((-5, on, off, 2),), None), (None, ((-5, on, off, TOP),), None),
                           (None, ((-5, on, 0, 1), (on + off - 5, on + 1, 0, 1)), None),
                           (-5, ((off - 5, on, 0, 1),), None), (None, ((-5, on, 0, 1),), on + off - 5),
                           (-5, ((off - 5, on, 0, 1),), on + 2 * off - 5)):
                self.assertIsNone(signal_error(signal))
                self.assertIs(keeps(signal, on, off), True)
                self.assertIs(keeps(signal, on + 1, off), False)
                self.assertIs(keeps(signal, on, off + 1), False)

    def test_endless_ends_do_not_count(self):
        far = 10 ** 90
        for signal in (ON, OFF, (5, (), None), (None, (), 5)):
            self.assertIs(keeps(signal, far, far), True)
        self.assertIs(keeps((0, (), 5), far, 5), True)
        self.assertIs(keeps((0, (), 5), far, 6), False)
        self.assertIs(keeps((None, ((0, 5, 0, 1),), None), 5, far), True)
        self.assertIs(keeps((None, ((0, 5, 0, 1),), None), 6, far), False)

    def test_one_burst_amiss_among_many(self):
        rng = random.Random(2)
        for bursts in (100, 180):
            told = tuple((1000 * k, 20 + k % 2, 30, 3) for k in range(bursts))
            self.assertIs(keeps((-90, told, 10 ** 7), 20, 30), True)
            for place in rng.sample(range(bursts), 5):
                begin = told[place][0]
                end = begin + 3 * told[place][1] + 60
                for amiss in (((begin, 19, 30, 3),), ((begin, 20, 29, 3),), (told[place], (end + 29, 25, 0, 1))):
                    self.assertIs(keeps((-90, told[:place] + amiss + told[place + 1:], 10 ** 7), 20, 30), False)

    def test_numbers_beyond_the_bounds(self):
        far = 10 ** 80
        signal = (-far, ((0, far, 7, far), (far * far * 3, 3, 0, 1)), far ** 3)
        self.assertIs(keeps(signal, 3, 7), True)
        self.assertIs(keeps(signal, 4, 7), False)
        self.assertIs(keeps(signal, 3, 8), False)

    def test_each_signal_keeps_one_and_one(self):
        rng = random.Random(3)
        for _ in range(60):
            self.assertIs(keeps(long_signal(rng, 20, 4, 9), 1, 1), True)


class TestFormFor(unittest.TestCase):
    def test_beside_a_walk_tick_by_tick(self):
        rng = random.Random(4)
        for _ in range(3000):
            row, ons, offs = some_row(rng, rng.randint(0, 8), 5), rng.randint(1, 9), rng.randint(1, 9)
            self.assertEqual(form_for(row, ons, offs), form(row)[:3] + (walked_stages(row, ons, offs),))

    def test_one_and_one_tell_the_form(self):
        rng = random.Random(5)
        for _ in range(300):
            row = some_row(rng, rng.randint(0, 40), rng.choice((3, TOP)))
            self.assertEqual(form_for(row, 1, 1), form(row))

    def test_at_heights_and_depths(self):
        rng = random.Random(6)
        for most in (4, TOP):
            for _ in range(200):
                row = some_row(rng, rng.randint(1, 12), most)
                top, depth = max((0,) + heights(row)), -min((0,) + heights(row))
                steps = form_for(row, 1 + top, 1 + depth)[3]
                self.assertEqual(steps, ())
                if top > 0:
                    self.assertEqual(form_for(row, top, 1 + depth)[3], (("drop", top),))
                if depth > 0:
                    self.assertEqual(form_for(row, 1 + top, depth)[3], (("fill", depth),))
                for height in heights(row):
                    for ons in (height - 1, height, height + 1):
                        if ons > 0:
                            drops = [number for word, number in form_for(row, ons, 1)[3] if word == "drop"]
                            self.assertTrue(all(number >= ons for number in drops))
                            self.assertEqual(drops[-1:], [top] if top >= ons else [])

    def test_scaled(self):
        rng = random.Random(7)
        for _ in range(300):
            row, ons, offs = some_row(rng, 9, 5), rng.randint(1, 9), rng.randint(1, 9)
            small = form_for(row, ons, offs)
            great = form_for(scaled_row(row, TOP // 5), ons * (TOP // 5), offs * (TOP // 5))
            self.assertEqual(great[3], tuple((word, number * (TOP // 5)) for word, number in small[3]))

    def test_stages_take_the_places_of_stages(self):
        # Without the fill of 2 between them there is one drop of 6 alone.
        row = (("on", 2), ("off", 4), ("on", 8))
        self.assertEqual([form_for(row, 1, offs)[3] for offs in (2, 3)],
                         [(("drop", 2), ("fill", 2), ("drop", 6)), (("drop", 6),)])
        self.assertEqual([form_for(row, ons, 1)[3] for ons in (2, 3, 6, 7)],
                         [(("drop", 2), ("fill", 2), ("drop", 6)), (("fill", 2), ("drop", 6)),
                          (("fill", 2), ("drop", 6)), (("fill", 2),)])

    def test_it_means_what_the_row_answers(self):
        """[G5], [C5]"""
        rng = random.Random(8)
        for _ in range(1500):
            row, ons, offs = some_row(rng, rng.randint(0, 7), 4), rng.randint(1, 7), rng.randint(1, 7)
            strip = kept_strip(rng, ons, offs, rng.randint(0, 12))
            self.assertTrue(keeps(signal_of(strip), ons, offs))
            expected = signal_of(row_strips(row, strip)[-1]) if row else signal_of(strip)
            self.assertEqual(meant(form_for(row, ons, offs), signal_of(strip)), expected)

    def test_it_means_what_the_row_answers_to_each_small_signal(self):
        for strip in all_strips(8):
            signal = signal_of(strip)
            for ons, offs in PROMISES:
                if keeps(signal, ons, offs):
                    for row in SMALL_ROWS[::3]:
                        self.assertEqual(meant(form_for(row, ons, offs), signal), answer(row, signal))


class TestAlikeAndWithin(unittest.TestCase):
    def test_small_rows_beside_all_small_signals_that_keep_the_promise(self):
        strips = list(all_strips(9))
        width = 22
        bits = {}
        for row in SMALL_ROWS:
            told = ""
            for strip in strips:
                after = row_strips(row, strip)[-1] if row else strip
                told += "".join("01"[strip_at(after, tick)] for tick in range(-8, width - 8))
            bits[row] = int(told, 2)
        for ons, offs in PROMISES:
            mask = int("".join("01"[keeping(strip, ons, offs)] * width for strip in strips), 2)
            for one, other in itertools.product(SMALL_ROWS, repeat=2):
                first, second = bits[one] & mask, bits[other] & mask
                self.assertIs(alike_for(one, other, ons, offs), first == second, (one, other, ons, offs))
                self.assertIs(within_for(one, other, ons, offs), not first & ~second, (one, other, ons, offs))

    def test_longer_rows_with_signals_that_keep_the_promise(self):
        rng = random.Random(9)
        seen = {True: 0, False: 0}
        for _ in range(1500):
            one, ons, offs = some_row(rng, rng.randint(1, 6), 3), rng.randint(1, 5), rng.randint(1, 5)
            other = tuple(rng.sample(one, len(one)))
            if rng.random() < 0.4:
                other += ((rng.choice(("on", "off")), 1),)
            lies = within_for(one, other, ons, offs)
            seen[lies] += 1
            for _ in range(4):
                strip = kept_strip(rng, ons, offs, 7)
                first, second = (row_strips(row, strip)[-1] for row in (one, other))
                if alike_for(one, other, ons, offs):
                    self.assertEqual(signal_of(first), signal_of(second))
                if lies:
                    for tick in range(-9, 120):
                        self.assertLessEqual(strip_at(first, tick), strip_at(second, tick))
        self.assertGreater(min(seen.values()), 150)

    def test_each_ways(self):
        rng = random.Random(10)
        for _ in range(500):
            one, other = some_row(rng, 4, 2), some_row(rng, 4, 2)
            for ons, offs in ((1, 1), (2, 3), (9, 9), (TOP, 1)):
                both = within_for(one, other, ons, offs) and within_for(other, one, ons, offs)
                self.assertEqual(both, alike_for(one, other, ons, offs))
                # What a promise lets be, a greater promise lets be.
                if within_for(one, other, ons, offs):
                    self.assertTrue(within_for(one, other, ons + 1, offs + 3))

    def test_turned_rows(self):
        self.assertTrue(within_for(STEADY + (TURN,), WIDE + (TURN,), 5, 5))
        self.assertTrue(within_for(WIDE + (TURN,), STEADY + (TURN,), 1, 1))
        self.assertFalse(within_for(STEADY + (TURN,), WIDE + (TURN,), 1, 1))
        self.assertTrue(alike_for((TURN, ("on", 4), ("off", 4)), (("delay", 4), TURN), 1, 5))
        self.assertFalse(alike_for((TURN, ("on", 4), ("off", 4)), (("delay", 4), TURN), 9, 4))
        self.assertFalse(within_for(STEADY, STEADY + (TURN,), TOP, TOP))
        self.assertFalse(within_for(STEADY + (TURN,), STEADY, TOP, TOP))


class TestBeyondFor(unittest.TestCase):
    def check(self, one, other, ons, offs):
        paper = beyond_for(one, other, ons, offs)
        self.assertEqual(paper is None, within_for(one, other, ons, offs), (one, other, ons, offs))
        if paper is not None:
            signal, tick = paper
            self.assertIs(type(paper), tuple)
            self.assertIs(type(tick), int)
            self.assertIsNone(signal_error(signal))
            self.assertTrue(keeps(signal, ons, offs), (one, other, ons, offs))
            self.assertTrue(is_on(answer(one, signal), tick), (one, other, ons, offs))
            self.assertFalse(is_on(answer(other, signal), tick), (one, other, ons, offs))
            self.assertTrue(beyond_holds(one, other, paper))

    def test_all_small_rows(self):
        for one, other in itertools.product(SMALL_ROWS, repeat=2):
            for ons, offs in ((1, 1), (2, 1), (1, 3), (2, 2)):
                self.check(one, other, ons, offs)

    def test_rows_that_only_stages_tell_apart(self):
        rng = random.Random(11)
        found = 0
        for _ in range(3000):
            rises = [(rng.choice(("on", "off")), rng.randint(1, 4)) for _ in range(rng.randint(2, 7))]
            one, other = tuple(rises), tuple(rng.sample(rises, len(rises)))
            ons, offs = rng.randint(1, 4), rng.randint(1, 4)
            self.check(one, other, ons, offs)
            self.check(one + (TURN,), other + (TURN,), ons, offs)
            found += beyond_for(one, other, ons, offs) is not None
        self.assertGreater(found, 300)

    def test_forty_parts_and_great_ticks_and_promises(self):
        rng = random.Random(12)
        for most in (3, 20, TOP):
            for words in (("on", "off"), ("on", "off", "delay", "turn")):
                for _ in range(40):
                    one = some_row(rng, 40, most, words)
                    place = rng.randrange(39)
                    other = one[:place] + (one[place + 1], one[place]) + one[place + 2:]
                    top, depth = max((1,) + heights(one)), max(1, -min((0,) + heights(one)))
                    for ons in (1, top // 2 + 1, top, top + 1, 10 ** 60, 10 ** 90):
                        for offs in (1, depth // 2 + 1, depth, depth + 1, 10 ** 60):
                            self.check(one, other, ons, offs)
                            self.check(other, one, ons, offs)


class TestUndoneBy(unittest.TestCase):
    def check(self, row, ons, offs, signals):
        """Return whether row is undone, with all that is to be seen of it."""
        told = undone_by(row, ons, offs)
        self.assertEqual(told is None, form_for(row, ons, offs)[3] != (), (row, ons, offs))
        if told is None:
            return False
        self.assertIs(type(told), tuple)
        back, later = told
        self.assertIsNone(row_error(back))
        self.assertEqual(later, max(form(row)[1:3]))
        for signal in signals:
            if keeps(signal, ons, offs):
                self.assertEqual(answer(back, answer(row, signal)), moved(signal, later), (row, ons, offs, signal))
        return True

    def test_small_rows_with_all_small_signals(self):
        signals = [signal_of(strip) for strip in all_strips(8)]
        for row in SMALL_ROWS:
            for ons, offs in PROMISES:
                self.check(row, ons, offs, signals)

    def test_rows_with_trains(self):
        rng = random.Random(13)
        seen = {True: 0, False: 0}
        for _ in range(800):
            row = some_row(rng, rng.randint(0, 7), 3)
            ons = max((0,) + heights(row)) + rng.choice((0, 1, 1, 2))
            offs = -min((0,) + heights(row)) + rng.choice((0, 1, 1, 2))
            ons, offs = max(1, ons), max(1, offs)
            signals = [signal_of(kept_strip(rng, ons, offs, rng.randint(0, 9))) for _ in range(6)]
            seen[self.check(row, ons, offs, signals + [ON, OFF, (5, (), None), (None, (), 5)])] += 1
        self.assertGreater(min(seen.values()), 100)

    def test_rows_that_are_not_undone_lose_a_signal(self):
        rng = random.Random(14)
        for _ in range(500):
            row, ons, offs = some_row(rng, 5, 4), rng.randint(1, 5), rng.randint(1, 5)
            if undone_by(row, ons, offs) is None:
                pulse, gap = (None, ((0, ons, 0, 1),), None), (0, (), offs)
                lost = [answer(row, pulse) == answer(row, OFF), answer(row, gap) == answer(row, ON)]
                self.assertTrue(any(lost), (row, ons, offs))

    def test_no_small_row_undoes_sooner(self):
        begins, ends = (None, (), 0), (0, (), None)
        for row in SMALL_ROWS:
            told = undone_by(row, 9, 9)
            for back in SMALL_ROWS:
                later = answer(back, answer(row, begins))
                if later[0] is None and later[2] is not None and answer(back, answer(row, ends)) == (later[2], (), None):
                    self.assertLessEqual(told[1], later[2])

    def test_forty_timers(self):
        signals = [(None, ((0, 50 * TOP, 50 * TOP, TOP),), None), (-TOP, (), 49 * TOP), OFF]
        for word, other in (("on", "off"), ("off", "on")):
            self.assertTrue(self.check(((word, TOP),) * 40, 41 * TOP, 41 * TOP, signals))
            back, later = undone_by(((word, TOP),) * 40, 41 * TOP, 41 * TOP)
            self.assertEqual((sum(part[1] for part in back), later), (40 * TOP, 40 * TOP))
            self.assertTrue(self.check(((word, TOP),) * 39 + (TURN,), 41 * TOP, 41 * TOP, signals))
            self.assertTrue(self.check((TURN,) + ((word, TOP),) * 39, 41 * TOP, 41 * TOP, signals))
            self.assertTrue(self.check(((word, TOP - 1), (other, TOP)) * 20, 41 * TOP, 41 * TOP, signals))
        self.assertIsNone(undone_by((("on", TOP),) * 40, 40 * TOP, 1))
        self.assertIsNotNone(undone_by((("on", TOP),) * 40, 40 * TOP + 1, 1))
        self.assertIsNone(undone_by((("off", TOP),) * 40, 1, 40 * TOP))
        self.assertIsNotNone(undone_by((("off", TOP),) * 40, 1, 40 * TOP + 1))
        self.assertEqual(undone_by((("delay", TOP),) * 40, 1, 1)[1], 40 * TOP)

    def test_small_and_plain(self):
        self.assertEqual(undone_by((), 1, 1)[1], 0)
        self.assertEqual(undone_by((TURN,), 1, 1)[1], 0)
        self.assertEqual(answer(undone_by((TURN,), 1, 1)[0], ON), OFF)
        self.assertEqual(undone_by((("on", 3), ("off", 3)), 4, 1)[1], 3)
        self.assertIsNone(undone_by((("on", 3), ("off", 3)), 3, 99))
        self.assertEqual(undone_by(ROW, 4, 3)[1], 7)
        self.assertEqual(undone_by(ROW + (TURN,), 4, 3)[1], 7)


class TestConventions(unittest.TestCase):
    def test_arguments_by_name(self):
        signal = (None, ((0, 4, 0, 1), (10, 6, 0, 1)), None)
        self.assertIs(keeps(signal=signal, ons=4, offs=6), True)
        self.assertEqual(form_for(row=ROW, ons=4, offs=1), (False, 6, 7, (("fill", 2),)))
        self.assertIs(alike_for(one=STEADY, other=WIDE, ons=5, offs=5), True)
        self.assertIs(within_for(one=WIDE, other=STEADY, ons=5, offs=4), False)
        self.assertIsNone(beyond_for(one=WIDE, other=STEADY, ons=5, offs=5))
        self.assertEqual(undone_by(row=STEADY, ons=5, offs=1)[1], 4)

    def test_equal_calls_get_equal_results_and_change_nothing(self):
        rng = random.Random(15)
        for _ in range(60):
            one, other, ons, offs = some_row(rng, 5, 3), some_row(rng, 5, 3), rng.randint(1, 5), rng.randint(1, 5)
            signal = long_signal(rng, 5, 5, 5)
            ahead = repr((one, other, signal))
            for call in (alike_for, within_for, beyond_for):
                self.assertEqual(repr(call(one, other, ons, offs)), repr(call(one, other, ons, offs)))
            for call in (form_for, undone_by):
                self.assertEqual(repr(call(one, ons, offs)), repr(call(one, ons, offs)))
            self.assertIs(keeps(signal, ons, offs), keeps(signal, ons, offs))
            self.assertEqual(repr((one, other, signal)), ahead)


if __name__ == "__main__":
    unittest.main()
