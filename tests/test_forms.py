"""Which values are forms, beside all rows of a few ticks."""

import itertools
import random
import unittest

from latewires.forms import form_error
from latewires.walks import form
from tests.models import scaled_row, some_row
from tests.values import VALUES, near

TOP = 10 ** 30


def all_forms(most):
    """Return the set of the forms of all rows, not turned, late on and off by at most so many ticks together.

    It is enough to look at parts of one tick, as others are made of these.
    """
    found = {form(()): ()}
    new = [()]
    while new:
        row = new.pop()
        for part in (("on", 1), ("off", 1), ("delay", 1)):
            longer = row + (part,)
            shape = form(longer)
            if shape[1] + shape[2] <= most and shape not in found:
                found[shape] = longer
                new.append(longer)
    return set(found)


def all_stages(most):
    """Return the list of all tuples of stages, as forms have them, with numbers to most."""
    told = [()]
    for steps in told:
        for word in ("drop", "fill"):
            ahead = max([0] + [number for kind, number in steps if kind == word])
            if not steps or steps[-1][0] != word:
                told += [steps + ((word, number),) for number in range(ahead + 1, most + 1)]
    return told


class TestFormsOfRows(unittest.TestCase):
    def test_forms_of_rows_are_forms(self):
        rng = random.Random(1)
        for _ in range(1500):
            row = some_row(rng, rng.randint(0, 40), rng.choice((1, 3, 20, TOP)))
            self.assertIsNone(form_error(form(row)), row)

    def test_forms_of_longer_rows_are_forms(self):
        rng = random.Random(2)
        for _ in range(30):
            row = scaled_row(some_row(rng, 300, 5), 10 ** 40)
            self.assertIsNone(form_error(form(row)))
        swings = tuple((("on", "off")[k % 2], 1 + k) for k in range(1500))
        self.assertEqual(len(form(swings)[3]), 1500)
        self.assertIsNone(form_error(form(swings)))

    def test_all_forms_of_a_few_ticks(self):
        found = all_forms(13)
        self.assertGreater(len(found), 500)
        seen = 0
        for steps in all_stages(5):
            for late_on, late_off in itertools.product(range(14), repeat=2):
                if late_on + late_off <= 13:
                    is_form = (False, late_on, late_off, steps) in found
                    seen += is_form
                    for turned in (False, True):
                        self.assertEqual(form_error((turned, late_on, late_off, steps)), None if is_form else "late")
        self.assertEqual(seen, len([shape for shape in found if all(number <= 5 for _, number in shape[3])]))


class TestErrors(unittest.TestCase):
    def check(self, value, error):
        told = form_error(value)
        self.assertEqual(told, error, value)
        self.assertIs(type(told), type(error))

    def test_what_is_no_quadruple(self):
        for value in ((), (False,), (False, 0, 0), (False, 0, 0, (), ()), [False, 0, 0, ()], {0: 1}, "form", None, True):
            self.check(value, "form")
        for value in ((0, 0, 0, ()), (1, 0, 0, ()), (None, 0, 0, ()), ("", 0, 0, ()), (False, True, 0, ()),
                      (False, 0, False, ()), (False, -1, 0, ()), (False, 0, -1, ()), (False, None, 0, ()),
                      (False, "0", 0, ()), (False, 0, (0,), ()), (False, 0, 0, []), (False, 0, 0, None),
                      (False, 0, 0, {}), (False, 0, 0, "drop"), (False, -1, -1, ())):
            self.check(value, "form")

    def test_what_is_no_stage(self):
        for item in (None, True, 3, "drop", (), ("drop",), ("drop", 4, 4), ["drop", 4], ("drop", 0), ("drop", -4),
                     ("fill", 0), ("drop", True), ("drop", "4"), ("drop", None), ("Drop", 4), ("on", 4), ("", 4),
                     (4, "drop"), (["drop"], 4), ({}, 4), ("drop", (4,)), (("drop", 4),)):
            self.check((False, 9, 9, (item,)), ("stage", 0))
            self.check((True, 0, 0, (("fill", 3), item)), ("stage", 1))
            self.check((False, 9, 9, (("drop", 3), ("fill", 3), item, None)), ("stage", 2))

    def test_words_take_turns(self):
        for word in ("drop", "fill"):
            self.check((False, 9, 9, ((word, 2), (word, 3))), ("stage", 1))
            self.check((False, 9, 9, ((word, 2), (word, 2))), ("stage", 1))
        self.check((False, 99, 99, (("drop", 2), ("fill", 2), ("fill", 3))), ("stage", 2))

    def test_numbers_ascend(self):
        for last, error in ((4, ("stage", 2)), (5, ("stage", 2)), (6, None)):
            self.check((False, 99, 99, (("drop", 5), ("fill", 1), ("drop", last))), error)
            self.check((False, 99, 99, (("fill", 5), ("drop", 9), ("fill", last))), error)
        for last, error in ((6, ("stage", 4)), (7, ("stage", 4)), (8, None)):
            self.check((False, 99, 99, (("drop", 5), ("fill", 1), ("drop", 7), ("fill", 2), ("drop", last))), error)

    def test_the_first_one_is_told(self):
        self.check((0, 9, 9, (None,)), "form")
        self.check((False, 0, 9, (None, ("drop", 0))), ("stage", 0))
        self.check((False, 0, 9, (("drop", 3), ("drop", 4))), ("stage", 1))

    def test_no_stages(self):
        for ticks in (0, 1, TOP, 10 ** 399):
            self.check((False, ticks, ticks, ()), None)
            self.check((True, ticks, ticks, ()), None)
            self.check((False, ticks + 1, ticks, ()), "late")
            self.check((True, ticks, ticks + 1, ()), "late")

    def test_the_height_in_the_end(self):
        steps = (("drop", 5), ("fill", 2))
        for turned in (False, True):
            for height, error in ((6, "late"), (5, None), (0, None), (-2, None), (-3, "late")):
                self.check((turned, 40, 40 - height, steps), error)
                self.check((turned, TOP, TOP - height, steps), error)
            self.check((turned, 9, 4, (("drop", 5),)), None)
            self.check((turned, 9, 3, (("drop", 5),)), "late")
            self.check((turned, 9, 10, (("drop", 5),)), "late")
            self.check((turned, 4, 9, (("fill", 5),)), None)
            self.check((turned, 3, 9, (("fill", 5),)), "late")
            self.check((turned, 10, 9, (("fill", 5),)), "late")

    def test_the_least_lateness(self):
        # Up by 5, down to -2, up to the height in the end.
        steps = (("drop", 5), ("fill", 2))
        for height in range(-2, 6):
            least = 5 + height + 2
            self.check((False, least, least - height, steps), None)
            self.check((False, least - 1, least - 1 - height, steps), "late")
            self.check((True, least + TOP, least + TOP - height, steps), None)
        # Down to -2, up to 5, down to the height in the end.
        steps = (("fill", 2), ("drop", 5))
        for height in range(-2, 6):
            self.check((False, 7, 7 - height, steps), None)
            self.check((False, 6, 6 - height, steps), "late")

    def test_great_numbers(self):
        for ticks in (TOP, 10 ** 399):
            self.check((False, ticks, 0, (("drop", ticks),)), None)
            self.check((False, ticks - 1, 0, (("drop", ticks),)), "late")
            self.check((False, ticks, 1, (("drop", ticks),)), None)
            self.check((False, 0, ticks, (("fill", ticks),)), None)
            self.check((False, 0, ticks, (("fill", ticks + 1),)), "late")


class TestValues(unittest.TestCase):
    def test_values_of_all_kinds(self):
        for value in VALUES:
            self.assertEqual(form_error(value), None if repr(value) == "(True, 0, 0, ())" else "form", value)
            for shape in ((value, 0, 0, ()), (False, value, 0, ()), (False, 0, value, ()), (False, 0, 0, value)):
                self.assertEqual(form_error(shape), self.expected(shape), shape)
            self.assertEqual(form_error((False, 9, 9, (value,))), ("stage", 0), value)

    def expected(self, shape):
        is_turned, late_on, late_off, steps = shape
        numbers = [type(number) is int and number >= 0 for number in (late_on, late_off)]
        if type(is_turned) is not bool or not all(numbers) or type(steps) is not tuple:
            return "form"
        if steps:
            return ("stage", 0)
        return None if late_on == late_off else "late"

    def test_what_is_near_a_form(self):
        rng = random.Random(3)
        for _ in range(30):
            for value in near(form(some_row(rng, 5, 3))):
                told = form_error(value)
                if told is None:
                    self.assertEqual([type(item) for item in value], [bool, int, int, tuple])
                    self.assertTrue(all(type(number) is int for _, number in value[3]))
                    self.assertIn((False,) + value[1:], self.forms)
                else:
                    self.assertIn(told if type(told) is str else told[0], ("form", "stage", "late"))
                    if told == "late" and value[1] + value[2] <= 16:
                        self.assertNotIn((False,) + value[1:], self.forms)

    @classmethod
    def setUpClass(cls):
        cls.forms = all_forms(20)

    def test_arguments_by_name_and_nothing_is_changed(self):
        self.assertIsNone(form_error(value=(True, 1, 1, ())))
        for value in ([True, 0], (False, 0, 0, [["drop", 1]]), (False, 0, 0, (["drop", 1],))):
            ahead = repr(value)
            form_error(value)
            self.assertEqual(repr(value), ahead)


if __name__ == "__main__":
    unittest.main()
