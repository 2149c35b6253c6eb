"""Rows told back by what they answer, and how many signals are asked for that."""

import itertools
import random
import unittest

from latewires.answers import answer
from latewires.asking import told_back
from latewires.building import row_of
from latewires.meanings import meant
from latewires.signals import signal_error
from latewires.walks import form
from tests.models import row_strips, scaled_row, signal_of, some_row, strip_of

TURN = ("turn",)
TOP = 10 ** 30
ROW, WIDE = (("on", 3), ("off", 5), ("delay", 2), ("on", 1)), (("off", 4), ("on", 4))
FAR = (TURN, ("off", TOP), ("on", 3 * 10 ** 29), TURN, TURN)
SMALL = [TURN] + [(word, ticks) for word in ("on", "off") for ticks in (1, 2, 3)] + [("delay", 1)]


def swings(parts, first, step):
    """Return a row of timers each of which goes farther than the one ahead."""
    return tuple((("on", "off")[k % 2], first + step * k) for k in range(parts))


class Work:
    """A function that answers as a row, and keeps what it was asked."""

    def __init__(self, row):
        self.row = row
        self.asked = []

    def __call__(self, signal, /):
        self.asked.append(signal)
        return answer(self.row, signal)


class TestToldBack(unittest.TestCase):
    def check(self, row):
        work = Work(row)
        shape = told_back(work)
        self.assertEqual(shape, form(row), row)
        self.assertLessEqual(len(work.asked), 8 + 250 * (len(shape[3]) + 2), row)
        self.assertEqual([type(item) for item in shape], [bool, int, int, tuple])
        return work

    def test_all_small_rows(self):
        for many in range(4):
            for row in itertools.product(SMALL, repeat=many):
                self.check(row)

    def test_rows(self):
        rng = random.Random(1)
        for _ in range(1200):
            self.check(some_row(rng, rng.randint(0, 9), rng.choice((2, 5, 30))))
            self.check(some_row(rng, rng.randint(0, 9), 6, ("on", "off")))

    def test_great_ticks(self):
        rng = random.Random(2)
        for _ in range(60):
            self.check(some_row(rng, rng.randint(1, 8), TOP))
            self.check(scaled_row(some_row(rng, rng.randint(1, 8), 5), TOP // 5))
            self.check(some_row(rng, 40, TOP, rng.choice((("on", "off"), ("on", "off", "delay", "turn")))))

    def test_one_word_alone(self):
        for word in ("on", "off", "delay"):
            for ticks in (0, 1, 2, 3, 4, 7, 8, 9, 2 ** 99, 2 ** 99 + 1, TOP - 1, TOP):
                self.check(((word, ticks),))
                self.check(((word, ticks), TURN))
            self.check(((word, TOP),) * 40)
            self.check(((word, TOP),) * 39 + (TURN,))
            self.check((TURN,) + ((word, TOP),) * 39)
        for turns in range(7):
            self.check((TURN,) * turns)

    def test_swings_that_go_farther_each_time(self):
        for row in (swings(40, 1, 1), swings(39, 1, 1), swings(40, TOP - 40, 1), swings(40, TOP // 41, TOP // 41),
                    swings(17, 5, 3), swings(12, 10 ** 20, 10 ** 27)):
            self.assertGreater(len(form(row)[3]), 10)
            self.check(row)
            self.check(row[1:])
            self.check(row[:38] + (TURN, ("delay", TOP)))
            self.check((TURN,) + row[:39])
        self.assertEqual(len(form(swings(40, TOP - 40, 1))[3]), 40)

    def test_stages_that_differ_by_one(self):
        for one, two, three in itertools.product((1, 2, TOP - 1), (1, 2, TOP), (1, 2)):
            row = (("on", one), ("off", min(TOP, one + two)), ("on", min(TOP, two + one + three)))
            self.check(row)
            self.check((TURN,) + row)

    def test_the_document_s_row(self):
        self.assertEqual(told_back(lambda signal: answer(FAR, signal)), (True, TOP, 3 * 10 ** 29, (("drop", TOP),)))

    def test_works_that_answer_alike_are_told_alike(self):
        """[J3]"""
        rng = random.Random(3)
        for _ in range(150):
            row = some_row(rng, rng.randint(0, 7), 4)
            shape = form(row)
            other = row_of(shape)
            self.assertEqual(told_back(lambda signal: answer(other, signal)), shape)
            self.assertEqual(told_back(lambda signal: meant(shape, signal)), shape)
            self.assertEqual(told_back(lambda signal: answer(row + (TURN, TURN), signal)), shape)
            asked, again = self.check(row).asked, self.check(other).asked
            self.assertEqual(asked, again)

    def test_a_work_that_counts_tick_by_tick(self):
        rng = random.Random(4)
        for _ in range(60):
            row = some_row(rng, rng.randint(1, 5), 2)
            reach = sum(part[1] for part in row if part != TURN)
            self.assertEqual(told_back(lambda signal: signal_of(row_strips(row, strip_of(signal, 9 * reach + 20))[-1])),
                             form(row))

    def test_what_is_asked_are_signals(self):
        for row in (FAR, ROW, swings(40, TOP - 40, 1), (("delay", TOP),) * 40):
            for signal in self.check(row).asked:
                self.assertIsNone(signal_error(signal))

    def test_arguments_by_name_and_equal_calls(self):
        self.assertEqual(told_back(work=lambda signal: answer(ROW, signal)), form(ROW))
        for row in (ROW, WIDE, FAR):
            self.assertEqual(repr(told_back(Work(row))), repr(told_back(Work(row))))

    def test_errors_of_a_work_go_on(self):
        def work(signal):
            raise KeyError(signal)

        self.assertRaises(KeyError, told_back, work)


if __name__ == "__main__":
    unittest.main()
