"""Exchanges and chains, beside exchanges told one by one."""

import itertools
import random
import unittest

from latewires.answers import answer
from latewires.chains import chain, chain_holds, is_exchange
from latewires.orders import alike
from latewires.walks import form
from tests.models import scaled_row, signal_of, some_row, train_strip
from tests.values import VALUES, near

TURN = ("turn",)
TOP = 10 ** 30
SWING, SWUNG, SHORT, LATE = (
    (("on", 2), ("off", 1), ("on", 1)), (("on", 2), ("delay", 1), ("on", 0)), (("on", 2), ("delay", 1)),
    (("delay", 1), ("on", 2)),
)
STEADY, WIDE = (("on", 4), ("off", 4)), (("off", 4), ("on", 4))
PARTS = [TURN, ("on", 0), ("on", 1), ("on", 2), ("off", 1), ("off", 2), ("delay", 0), ("delay", 1)]


def contrary(word):
    return "off" if word == "on" else "on"


def one_told(part):
    """Return what the exchanges (a) put in the place of one part, as the document tells it."""
    return [()] if part in (("on", 0), ("off", 0), ("delay", 0)) else []


def two_told(first, second):
    """Return what the exchanges (b) to (e) put in the place of two parts, as the document tells it."""
    told = []
    if first[0] == second[0] and first != TURN:
        told.append(((first[0], first[1] + second[1]),))
    if "delay" in (first[0], second[0]):
        told.append((second, first))
    if first == second == TURN:
        told.append(())
    if first == TURN and second[0] in ("on", "off"):
        told.append(((contrary(second[0]), second[1]), TURN))
    return told


def three_told(first, second, third):
    """Return what the exchange (f) puts in the place of three parts, as the document tells it."""
    if [first[0], second[0], third[0]] not in (["on", "off", "on"], ["off", "on", "off"]):
        return []
    (x, p), (y, q), (_, r) = first, second, third
    if not 1 <= q <= p:
        return []
    return [((x, p), ("delay", q), (x, r - q))] if r >= q else [((x, p), ("delay", r), (y, q - r))]


def led_from(row):
    """Return the set of what one exchange, told from left to right, leads a long row to."""
    found = set()
    for size, told in ((1, one_told), (2, two_told), (3, three_told)):
        for place in range(len(row) - size + 1):
            for parts in told(*row[place:place + size]):
                found.add(row[:place] + parts + row[place + size:])
    return found - {row}


def led_back(row, rng):
    """Return a long row that an exchange leads to row, by a random source: parts split, put in, and the like."""
    place = rng.randint(0, len(row))
    part = row[place] if place < len(row) else None
    kind = rng.randint(0, 3)
    if kind == 0:
        return row[:place] + ((rng.choice(("on", "off", "delay")), 0),) + row[place:]
    if kind == 1:
        return row[:place] + (TURN, TURN) + row[place:]
    if kind == 2 and part and part != TURN:
        first = rng.randint(0, part[1])
        return row[:place] + ((part[0], first), (part[0], part[1] - first)) + row[place + 1:]
    some = row[place:place + 3]
    if kind == 3 and len(some) == 3 and some[0][0] in ("on", "off") and some[1][0] == "delay":
        (x, p), (_, d), (word, ticks) = some[0], some[1], (some[2] + (0,))[:2]
        if word == x and 1 <= d <= p:
            return row[:place] + ((x, p), (contrary(x), d), (x, d + ticks)) + row[place + 3:]
        if word == contrary(x) and 1 <= d + ticks <= p and ticks:
            return row[:place] + ((x, p), (word, d + ticks), (x, d)) + row[place + 3:]
    return row


def some_alike(row, rng, times):
    """Return a row alike to row, led there by so many exchanges, by a random source."""
    for _ in range(times):
        choices = sorted(led_from(row))
        if choices and rng.random() < 0.4:
            row = rng.choice(choices)
        elif len(row) < 39:
            row = led_back(row, rng)
    return row


class TestIsExchange(unittest.TestCase):
    def check(self, row, other, expected):
        self.assertIs(is_exchange(row, other), expected, (row, other))
        self.assertIs(is_exchange(other, row), expected, (other, row))

    def test_each_two_small_rows(self):
        rows = [row for many in range(4) for row in itertools.product(PARTS, repeat=many)]
        led = {row: led_from(row) for row in rows}
        for row in rows:
            beside = {other for other in rows if len(row) - 2 <= len(other) <= len(row) + 2}
            for other in beside if len(row) < 3 else sorted(led[row]) + rows[:80]:
                expected = other in led[row] or (other in led and row in led[other])
                self.assertIs(is_exchange(row, other), expected, (row, other))

    def test_each_two_rows_of_three_timers(self):
        timers = [(word, ticks) for word in ("on", "off") for ticks in (0, 1, 2)] + [("delay", 1), ("delay", 2)]
        rows = list(itertools.product(timers, repeat=3))
        led = {row: led_from(row) for row in rows}
        for row, other in itertools.product(rows, repeat=2):
            if row[0] == other[0] or row[2] == other[2]:
                self.assertIs(is_exchange(row, other), other in led[row] or row in led[other], (row, other))

    def test_longer_rows(self):
        rng = random.Random(1)
        for _ in range(400):
            row = some_row(rng, rng.randint(0, 9), 3)
            for other in sorted(led_from(row)):
                self.check(row, other, True)
            other = led_back(row, rng)
            self.check(row, other, other != row)

    def test_rows_near_an_exchange(self):
        rng = random.Random(2)
        seen = {True: 0, False: 0}
        for _ in range(500):
            row = some_row(rng, rng.randint(1, 7), 3)
            for other in sorted(led_from(row)):
                place = rng.randint(0, len(other))
                part = rng.choice(PARTS)
                for spoilt in (other[:place] + (part,) + other[place:], other[:place] + (part,) + other[place + 1:],
                               other[:place] + other[place + 1:], other[::-1]):
                    expected = spoilt in led_from(row) or row in led_from(spoilt)
                    self.check(row, spoilt, expected)
                    seen[expected] += 1
        self.assertGreater(min(seen.values()), 300)

    def test_a_row_is_not_led_to_itself(self):
        for row in ((), SWING, (("delay", 2), ("delay", 2)), (TURN, TURN), (("on", 0),) * 5, (TURN,) * 40):
            self.check(row, row, False)

    def test_nothing(self):
        for word in ("on", "off", "delay"):
            self.check(((word, 0),), (), True)
            self.check(((word, 1),), (), False)
            self.check(SWING[:1] + ((word, 0),) + SWING[1:], SWING, True)
            self.check(((word, 0), (word, 0)), (), False)
        self.check((TURN,), (), False)

    def test_together(self):
        for word in ("on", "off", "delay"):
            self.check(((word, 2), (word, 3)), ((word, 5),), True)
            self.check(((word, TOP), (word, TOP)), ((word, 2 * TOP),), True)
            self.check(((word, 2), (word, 3)), ((word, 6),), False)
            self.check(((word, 0), (word, 0)), ((word, 0),), True)
            self.check(((word, 2), (word, 3), (word, 4)), ((word, 9),), False)
            self.check(((word, 2), (word, 3), (word, 4)), ((word, 2), (word, 7)), True)
        self.check((("on", 2), ("off", 3)), (("on", 5),), False)
        self.check((("on", 2), ("off", 2)), (("delay", 2),), False)
        self.check((TURN, TURN), (TURN,), False)

    def test_places(self):
        for part in (("on", 3), ("off", 3), ("delay", 3), TURN):
            self.check((("delay", 2), part), (part, ("delay", 2)), True)
        self.check((("on", 2), ("off", 3)), (("off", 3), ("on", 2)), False)
        self.check((("on", 2), TURN), (TURN, ("on", 2)), False)
        self.check((("on", 2), ("on", 3)), (("on", 3), ("on", 2)), False)
        self.check((("delay", 2), ("on", 1), ("off", 1)), (("on", 1), ("off", 1), ("delay", 2)), False)

    def test_turns(self):
        self.check((TURN, TURN), (), True)
        self.check((TURN,) * 7, (TURN,) * 5, True)
        self.check((TURN,) * 7, (TURN,) * 3, False)
        self.check((("on", 1), TURN, TURN, ("off", 1)), (("on", 1), ("off", 1)), True)
        for word in ("on", "off"):
            self.check((TURN, (word, TOP)), ((contrary(word), TOP), TURN), True)
            self.check((TURN, (word, TOP)), ((contrary(word), TOP - 1), TURN), False)
            self.check((TURN, (word, 3)), ((word, 3), TURN), False)
            self.check((TURN, (word, 3), TURN), ((contrary(word), 3),), False)

    def test_swings(self):
        for x, y in (("on", "off"), ("off", "on")):
            for p, q, r in itertools.product((0, 1, 2, 3, TOP, TOP + 1), repeat=3):
                row = ((x, p), (y, q), (x, r))
                after = ((x, p), ("delay", q), (x, r - q)) if r >= q else ((x, p), ("delay", r), (y, q - r))
                self.check(row, after, 1 <= q <= p)
                self.check((TURN,) + row + (("delay", 9),), (TURN,) + after + (("delay", 9),), 1 <= q <= p)
                self.check(row, after[:1] + (("delay", after[1][1] + 1),) + after[2:], False)
        self.check((("on", 5), ("off", 2), ("off", 2)), (("on", 5), ("delay", 2), ("off", 0)), False)
        self.check((("on", 5), ("on", 2), ("on", 2)), (("on", 5), ("delay", 2), ("on", 0)), False)
        self.check((("delay", 5), ("off", 2), ("on", 2)), (("delay", 5), ("delay", 2), ("on", 0)), False)

    def test_one_exchange_is_not_two(self):
        self.check(SWING, SHORT, False)
        self.check(SWING, LATE, False)
        self.check((("on", 0), ("off", 0)), (), False)

    def test_great_ticks(self):
        rng = random.Random(3)
        for _ in range(200):
            row = some_row(rng, 6, 3)
            for other in sorted(led_from(row)):
                self.check(scaled_row(row, 10 ** 40), scaled_row(other, 10 ** 40), True)
                spoilt = scaled_row(other, 10 ** 40)[:-1] + (("on", 10 ** 40 + 1),)
                self.check(scaled_row(row, 10 ** 40), spoilt, False)

    def test_very_long_rows(self):
        many = 5000
        self.check((TURN,) * many, (TURN,) * (many - 2), True)
        self.check((TURN,) * many, (TURN,) * (many - 1), False)
        self.check((("on", 1),) * many, (("on", 1),) * (many - 1), False)
        self.check((("on", 0),) * many, (("on", 0),) * (many - 1), True)
        row = SWING * many
        self.check(row, row[:many] + (("delay", 0),) + row[many:], True)
        self.check(row, row[:many] + (("delay", 1),) + row[many:], False)

    def test_what_an_exchange_leads_to_is_alike(self):
        rng = random.Random(4)
        for _ in range(300):
            row = some_row(rng, rng.randint(0, 7), 3)
            for other in sorted(led_from(row)):
                signal = signal_of(train_strip(rng, 6))
                self.assertEqual(form(row), form(other))
                self.assertEqual(answer(row, signal), answer(other, signal))


def is_step(row, other):
    return row != other and (other in led_from(row) or row in led_from(other))


class TestChain(unittest.TestCase):
    def check(self, one, other):
        told = chain(one, other)
        self.assertIs(type(told), tuple)
        self.assertEqual((told[0], told[-1]), (one, other))
        self.assertLessEqual(len(told), 6000)
        for row, behind in zip(told, told[1:]):
            self.assertTrue(is_step(row, behind), (row, behind))
        self.assertIs(chain_holds(one, other, told), True)
        self.assertIs(chain_holds(other, one, told[::-1]), True)
        return told

    def test_alike_rows(self):
        rng = random.Random(5)
        for _ in range(400):
            one = some_row(rng, rng.randint(0, 8), 4)
            self.check(one, some_alike(one, rng, rng.randint(0, 25)))

    def test_all_small_alike_rows(self):
        rows = [row for many in range(3) for row in itertools.product(PARTS, repeat=many)]
        for one, other in itertools.product(rows, repeat=2):
            if form(one) == form(other):
                self.check(one, other)
            else:
                self.assertIsNone(chain(one, other))

    def test_no_parts(self):
        self.check((), ())
        self.check((), (("on", 0),))
        self.check((TURN,) * 40, ())
        self.check((("on", 0), TURN) * 20, (("delay", 0),) * 40)
        self.check((("on", 0), TURN) * 19 + (("off", 0), ("delay", 0)), (TURN,))

    def test_forty_parts(self):
        rng = random.Random(6)
        for words in (("on", "off"), ("on", "off", "turn"), ("on", "off", "delay"), ("on", "off", "delay", "turn")):
            for most in (1, 3, 30, TOP):
                for _ in range(3):
                    one = some_row(rng, 40, most, words)
                    self.check(one, some_alike(one, rng, 40))

    def test_rows_that_want_many_exchanges(self):
        # Each swing is smaller than the one ahead: so it takes long to do away with all of them.
        small = tuple((("on", "off")[k % 2], 100 - k) for k in range(40))
        turned = tuple(part for k in range(13) for part in (TURN, ("delay", 1), ("on", 20 - k))) + (TURN,)
        rows = [small, small[::-1], turned, turned[::-1], (TURN,) * 20 + (("on", 1), ("off", 1)) * 10,
                (TURN,) * 13 + (("delay", 1),) * 13 + (("on", 2), ("off", 1)) * 7, (("on", 1), ("off", 1)) * 20,
                (("delay", 1),) * 20 + small[:20], tuple((("on", "off")[k % 2], 1 + k) for k in range(40)),
                tuple((("on", "off")[k % 2], (7 * k) % 41 + 1) for k in range(40))]
        rng = random.Random(7)
        for one in rows:
            told = self.check(one, some_alike(one, rng, 30))
            self.assertLess(len(told), 6000)

    def test_great_ticks(self):
        rng = random.Random(8)
        for _ in range(60):
            one = some_row(rng, rng.randint(1, 12), 5)
            other = some_alike(one, rng, 20)
            self.check(scaled_row(one, TOP // 5), scaled_row(other, TOP // 5))

    def test_one_row(self):
        for row in ((), SWING, WIDE, (TURN,) * 40):
            self.check(row, row)
            self.assertTrue(chain_holds(row, row, (row,)))

    def test_none_between_unlike_rows(self):
        rng = random.Random(9)
        for _ in range(500):
            one, other = some_row(rng, rng.randint(0, 6), 3), some_row(rng, rng.randint(0, 6), 3)
            self.assertEqual(chain(one, other) is None, not alike(one, other))
        for one, other in ((STEADY, WIDE), ((), (TURN,)), ((), (("delay", 1),)), (LATE, LATE + (TURN,)),
                           ((("on", TOP),) * 40, (("on", TOP),) * 39 + (("on", TOP - 1),))):
            self.assertIsNone(chain(one, other))
            self.assertIsNone(chain(other, one))


class TestChainHolds(unittest.TestCase):
    def test_spoilt_in_one_place(self):
        rng = random.Random(10)
        for _ in range(25):
            one = some_row(rng, rng.randint(1, 5), 3)
            other = some_alike(one, rng, 8)
            told = chain(one, other)
            for place in range(len(told)):
                without = told[:place] + told[place + 1:]
                self.assertIs(chain_holds(one, other, without), self.is_chain(one, other, without))
                self.assertIs(chain_holds(one, other, told[:place] + (told[place],) + told[place:]), False)
                for row in (list(told[place]), told[place] + (("on", 1),), None, "on 3", told[place] + (None,)):
                    self.assertIs(chain_holds(one, other, told[:place] + (row,) + told[place + 1:]), False)

    def is_chain(self, one, other, value):
        if not value or value[0] != one or value[-1] != other:
            return False
        return all(is_step(row, behind) for row, behind in zip(value, value[1:]))

    def is_long_row(self, value):
        return type(value) is tuple and all(
            part == TURN or type(part) is tuple and len(part) == 2 and type(part[0]) is str
            and part[0] in ("on", "off", "delay") and type(part[1]) is int and part[1] >= 0 for part in value)

    def test_what_is_near_a_chain(self):
        for one, other, told in ((SWING, LATE, (SWING, SWUNG, SHORT, LATE)), (SWING, LATE, chain(SWING, LATE)),
                                 ((TURN, ("on", 3), TURN), (("off", 3),), chain((TURN, ("on", 3), TURN), (("off", 3),))),
                                 ((("on", 1),), (("on", 1),), ((("on", 1),),))):
            for value in near(told):
                well = type(value) is tuple and all(self.is_long_row(row) for row in value)
                expected = well and self.is_chain(one, other, value)
                self.assertIs(chain_holds(one, other, value), expected, value)

    def test_values_of_all_kinds(self):
        for one, other in ((SWING, LATE), ((), ()), (STEADY, WIDE), ((TURN,), (TURN,))):
            for value in VALUES:
                self.assertIs(chain_holds(one, other, value), one == () and value == ((),))
                self.assertIs(chain_holds(one, other, (one, value, other)), False)

    def test_true_is_not_one(self):
        one = (("on", 1),)
        self.assertTrue(chain_holds(one, one, (one,)))
        self.assertFalse(chain_holds(one, one, ((("on", True),),)))
        idle = (("on", 0),)
        self.assertTrue(chain_holds(idle, (), (idle, ())))
        self.assertFalse(chain_holds(idle, (), ((("on", False),), ())))

    def test_ticks_below_0(self):
        for word in ("on", "off", "delay"):
            self.assertFalse(chain_holds(LATE, LATE, (LATE, LATE[:1] + ((word, 5), (word, -3)), LATE)))
            self.assertFalse(chain_holds((("on", 2),), (("on", 2),), ((("on", 2),), (("on", 5), ("on", -3)), (("on", 2),))))
            self.assertFalse(chain_holds((), (), ((), ((word, -1),), ())))

    def test_how_many_rows(self):
        for many in (2, 5998, 6000):
            self.assertTrue(chain_holds(LATE, SHORT, (LATE, SHORT) * (many // 2)))
        self.assertTrue(chain_holds(LATE, LATE, (LATE, SHORT) * 2999 + (LATE,)))
        self.assertFalse(chain_holds(LATE, LATE, (LATE, SHORT) * 3000 + (LATE,)))
        self.assertFalse(chain_holds(LATE, SHORT, (LATE, SHORT) * 3001))
        self.assertFalse(chain_holds(LATE, LATE, ()))

    def test_rows_in_it_may_be_longer_than_rows(self):
        idle = [LATE + (("off", 0),) * many for many in range(60)]
        self.assertTrue(chain_holds(LATE, LATE, tuple(idle + idle[-2::-1])))
        self.assertFalse(chain_holds(LATE, LATE, tuple(idle + idle[-3::-1])))
        far = ((("on", TOP), ("on", TOP)), (("on", 2 * TOP),), (("on", TOP + 1), ("on", TOP - 1)))
        self.assertTrue(chain_holds(far[0], far[0], far[:2] + far[:1]))
        self.assertTrue(chain_holds(far[0], far[0], far + far[1::-1]))
        self.assertFalse(chain_holds(far[0], far[0], (far[0], far[2], far[1], far[0])))

    def test_the_ends(self):
        told = (SWING, SWUNG, SHORT, LATE)
        self.assertTrue(chain_holds(SWING, LATE, told))
        self.assertFalse(chain_holds(SWUNG, LATE, told))
        self.assertFalse(chain_holds(SWING, SHORT, told))
        self.assertFalse(chain_holds(LATE, SWING, told))
        self.assertTrue(chain_holds(LATE, SWING, told[::-1]))
        self.assertFalse(chain_holds(SWING, LATE, (SWING,)))
        self.assertFalse(chain_holds(SWING, LATE, (LATE,)))

    def test_no_chain_between_unlike_rows(self):
        for value in ((STEADY, WIDE), (STEADY,), (WIDE,), (STEADY, (("on", 4), ("delay", 4)), WIDE)):
            self.assertFalse(chain_holds(STEADY, WIDE, value))


class TestConventions(unittest.TestCase):
    def test_arguments_by_name(self):
        self.assertIs(is_exchange(row=SWING, other=SWUNG), True)
        self.assertIs(chain_holds(one=SWING, other=LATE, value=chain(one=SWING, other=LATE)), True)

    def test_equal_calls_get_equal_results_and_change_nothing(self):
        rng = random.Random(11)
        for _ in range(40):
            one = some_row(rng, 6, 3)
            other = some_alike(one, rng, 9)
            ahead = repr((one, other))
            self.assertEqual(repr(chain(one, other)), repr(chain(one, other)))
            self.assertEqual(repr((one, other)), ahead)
        for value in ([SWING, SWUNG], ([["on", 2]], {}), {"a": [1]}):
            ahead = repr(value)
            chain_holds(SWING, LATE, value)
            self.assertEqual(repr(value), ahead)


if __name__ == "__main__":
    unittest.main()
