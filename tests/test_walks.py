"""The walks of rows, beside a walk tick by tick."""

import itertools
import random
import unittest

from latewires.walks import form, heights, stages
from tests.models import some_row, scaled_row

ROW = (("on", 3), ("off", 5), ("delay", 2), ("on", 1))
TURN = ("turn",)
TOP = 10 ** 30
PARTS = [TURN] + [(word, ticks) for word in ("on", "off", "delay") for ticks in range(4)]


def walked(row):
    """Return heights and form of a row as the document tells them, tick by tick."""
    height, late_on, late_off, turned = 0, 0, 0, False
    been, told, made = {0}, [], []
    for part in row:
        if part == TURN:
            turned = not turned
        elif part[0] == "delay":
            late_on += part[1]
            late_off += part[1]
        else:
            goes_up = (part[0] == "on") != turned
            for _ in range(part[1]):
                height += 1 if goes_up else -1
                late_on += goes_up
                late_off += not goes_up
                stage = ("drop", height) if height > max(been) else ("fill", -height) if height < min(been) else None
                been.add(height)
                if stage and made and made[-1][0] == stage[0]:
                    made.pop()
                if stage:
                    made.append(stage)
        told.append(height)
    return tuple(told), (turned, late_on, late_off, tuple(made))


def scaled_form(shape, by):
    return (shape[0], shape[1] * by, shape[2] * by, tuple((word, number * by) for word, number in shape[3]))


class TestTickByTick(unittest.TestCase):
    def check(self, row):
        told, shape = walked(row)
        self.assertEqual(heights(row), told, row)
        self.assertEqual(form(row), shape, row)
        self.assertEqual(stages(row), shape[3], row)
        self.assertEqual(form(row)[1] - form(row)[2], told[-1] if told else 0)

    def test_small_rows(self):
        for many in range(4):
            for row in itertools.product(PARTS, repeat=many):
                self.check(row)

    def test_rows_of_timers(self):
        rng = random.Random(1)
        for _ in range(1500):
            self.check(some_row(rng, rng.randint(1, 12), 6, ("on", "off")))

    def test_rows_of_all_parts(self):
        rng = random.Random(2)
        for _ in range(1500):
            self.check(some_row(rng, rng.randint(1, 12), 6))

    def test_forty_parts(self):
        rng = random.Random(3)
        for words in (("on", "off"), ("on", "off", "delay", "turn"), ("on", "turn"), ("delay", "turn")):
            for _ in range(60):
                self.check(some_row(rng, 40, 5, words))

    def test_more_parts_than_rows_have(self):
        rng = random.Random(4)
        for _ in range(10):
            self.check(some_row(rng, 300, 4))


class TestGreatTicks(unittest.TestCase):
    def test_as_small_ones(self):
        rng = random.Random(5)
        for by in (10 ** 29, 3 ** 62, 10 ** 90):
            for _ in range(100):
                row = some_row(rng, rng.randint(0, 40), 10)
                self.assertEqual(form(scaled_row(row, by)), scaled_form(form(row), by))
                self.assertEqual(heights(scaled_row(row, by)), tuple(height * by for height in heights(row)))

    def test_stages_that_swing_farther_and_farther(self):
        row = tuple((("on", "off")[k % 2], TOP - 40 + k) for k in range(40))
        made = stages(row)
        self.assertEqual(len(made), 40)
        self.assertEqual(made[:3], (("drop", TOP - 40), ("fill", 1), ("drop", TOP - 39)))
        self.assertEqual(made[-1], ("fill", 20))
        self.assertEqual([word for word, _ in made], ["drop", "fill"] * 20)
        self.assertEqual(heights(row)[-1], -20)

    def test_stages_that_swing_less_and_less(self):
        row = tuple((("off", "on")[k % 2], TOP - k) for k in range(40))
        self.assertEqual(stages(row), (("fill", TOP),))
        self.assertEqual(form(row)[1] - form(row)[2], -20)

    def test_one_tick_apart(self):
        for ticks in (1, 2, TOP):
            self.assertEqual(stages((("on", ticks), ("off", 2 * ticks))), (("drop", ticks), ("fill", ticks)))
            self.assertEqual(stages((("on", ticks), ("off", ticks))), (("drop", ticks),))
            self.assertEqual(stages((("on", ticks), ("off", ticks + 1))), (("drop", ticks), ("fill", 1)))
            self.assertEqual(stages((("on", ticks), ("off", ticks), ("on", ticks))), (("drop", ticks),))
            self.assertEqual(stages((("on", ticks), ("off", ticks), ("on", ticks + 1))), (("drop", ticks + 1),))


class TestTurns(unittest.TestCase):
    def test_how_many(self):
        for many in range(41):
            self.assertEqual(form((TURN,) * many), (many % 2 == 1, 0, 0, ()))
            self.assertEqual(heights((TURN,) * many), (0,) * many)

    def test_a_turn_leads_timers_the_other_way(self):
        self.assertEqual(heights((("on", 1), TURN, ("on", 3), TURN, ("off", 1))), (1, 1, -2, -2, -3))
        self.assertEqual(form((TURN, ("on", 3))), (True, 0, 3, (("fill", 3),)))
        self.assertEqual(form((TURN, ("off", 3))), (True, 3, 0, (("drop", 3),)))
        self.assertEqual(form((("on", 3), TURN)), (True, 3, 0, (("drop", 3),)))
        self.assertEqual(form((TURN, ("delay", 2), TURN)), (False, 2, 2, ()))
        self.assertEqual(form((TURN, ("on", 2), TURN, ("off", 1), TURN, ("off", 7))),
                         (True, 7, 3, (("fill", 3), ("drop", 4))))


class TestNothing(unittest.TestCase):
    def test_no_part(self):
        self.assertEqual((heights(()), stages(()), form(())), ((), (), (False, 0, 0, ())))

    def test_parts_of_no_ticks(self):
        rng = random.Random(6)
        idle = (("on", 0), ("off", 0), ("delay", 0))
        self.assertEqual(form(idle * 13), (False, 0, 0, ()))
        self.assertEqual(heights(idle), (0, 0, 0))
        for _ in range(100):
            row = some_row(rng, 8, 4)
            place = rng.randint(0, 8)
            self.assertEqual(form(row[:place] + (rng.choice(idle),) + row[place:]), form(row))


class TestConventions(unittest.TestCase):
    def test_arguments_by_name(self):
        self.assertEqual(heights(row=ROW), (3, -2, -2, -1))
        self.assertEqual(stages(row=ROW), (("drop", 3), ("fill", 2)))
        self.assertEqual(form(row=ROW), (False, 6, 7, (("drop", 3), ("fill", 2))))

    def test_kinds(self):
        rng = random.Random(7)
        for _ in range(100):
            row = some_row(rng, rng.randint(0, 8), 4)
            self.assertIs(type(heights(row)), tuple)
            self.assertEqual({type(height) for height in heights(row)}, {int} if row else set())
            self.assertEqual([type(item) for item in form(row)], [bool, int, int, tuple])
            for stage in stages(row):
                self.assertEqual((type(stage), type(stage[0]), type(stage[1])), (tuple, str, int))

    def test_equal_calls_get_equal_results_and_change_nothing(self):
        rng = random.Random(8)
        for _ in range(50):
            row = some_row(rng, 9, 4)
            ahead = repr(row)
            self.assertEqual(repr((heights(row), stages(row), form(row))), repr((heights(row), stages(row), form(row))))
            self.assertEqual(repr(row), ahead)


if __name__ == "__main__":
    unittest.main()
