"""The bounds and the errors of the interface."""

import unittest

from latewires import bounds, errors

BOUNDS = {
    "MAX_PARTS": 40,
    "MAX_TICKS": 10 ** 30,
    "MAX_NUMBER": 10 ** 60,
    "MAX_BURSTS": 100,
    "MAX_TIMES": 10 ** 30,
    "MAX_STEPS": 6000,
    "MAX_EFFECT": 12,
    "MAX_COUNT": 300,
    "MAX_TIMERS": 400,
    "MAX_NAMES": 8,
    "MAX_NAME": 8,
    "MAX_NEST": 8,
    "BATCH": 12,
    "MAX_EDITS": 40,
}

# Each error class with the name of its argument, None if it has none.
ERRORS = {
    "Unfit": None,
    "BadText": None,
    "BadRow": "error",
    "BadForm": "error",
    "NoRow": None,
    "TooMany": "limit",
    "NoName": "given",
    "Taken": "given",
    "BadBatch": None,
    "Rejected": "index",
    "TooManyEdits": None,
    "NothingToUndo": None,
    "NothingToRedo": None,
    "NoVersion": "given",
    "BadLog": "place",
}

VALUES = (None, True, 0, -3, 10 ** 400, "", "a\nb", (), ("part", 2), [1, [2]], {"a": [1]}, "form")


class TestBounds(unittest.TestCase):
    def test_each_bound_has_its_value(self):
        for name, value in BOUNDS.items():
            with self.subTest(name=name):
                self.assertEqual(getattr(bounds, name), value)
                self.assertIs(type(getattr(bounds, name)), int)


class TestErrors(unittest.TestCase):
    def test_wire_error_is_directly_a_value_error(self):
        self.assertEqual(errors.WireError.__bases__, (ValueError,))

    def test_each_error_is_directly_a_wire_error(self):
        for name in ERRORS:
            with self.subTest(name=name):
                self.assertEqual(getattr(errors, name).__bases__, (errors.WireError,))
                self.assertEqual(getattr(errors, name).__name__, name)

    def test_no_error_is_under_another_one(self):
        for name in ERRORS:
            for other in ERRORS:
                if other != name:
                    self.assertFalse(issubclass(getattr(errors, name), getattr(errors, other)))

    def test_each_is_defined_in_its_file(self):
        for name in ("WireError", *ERRORS):
            self.assertEqual(getattr(errors, name).__module__, "latewires.errors")

    def test_errors_without_arguments(self):
        for name, argument in ERRORS.items():
            if argument is None:
                with self.subTest(name=name):
                    with self.assertRaises(errors.WireError):
                        raise getattr(errors, name)()

    def test_errors_keep_what_they_are_made_with(self):
        for name, argument in ERRORS.items():
            if argument is None:
                continue
            made = getattr(errors, name)
            for value in VALUES:
                with self.subTest(name=name, value=value):
                    self.assertIs(getattr(made(value), argument), value)
                    self.assertIs(getattr(made(**{argument: value}), argument), value)

    def test_errors_want_their_argument(self):
        for name, argument in ERRORS.items():
            if argument is not None:
                with self.subTest(name=name):
                    self.assertRaises(TypeError, getattr(errors, name))
                    self.assertRaises(TypeError, getattr(errors, name), 1, 2)

    def test_errors_can_be_raised_and_caught(self):
        for name, argument in ERRORS.items():
            if argument is not None:
                with self.subTest(name=name):
                    with self.assertRaises(ValueError) as caught:
                        raise getattr(errors, name)(("told", 1))
                    self.assertEqual(getattr(caught.exception, argument), ("told", 1))


if __name__ == "__main__":
    unittest.main()
