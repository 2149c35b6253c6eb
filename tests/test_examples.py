"""The examples of the document, as it shows them."""

import unittest

from tests.examples import pieces, run

A6 = '''
    >>> from latewires.signals import is_on, on_ticks, signal_error
    >>> some = (3, ((5, 2, 3, 4), (40, 1, 0, 1)), 90)
    >>> [signal_error(value) for value in (some, (None, (), None), (0, (), 0), [3, (), None], (True, (), None), (None, ((5, 2, 3, 0),), None), (None, ((5, 2, 1, 1),), None))]
    [None, None, None, 'form', 'form', ('burst', 0), ('burst', 0)]
    >>> [signal_error(value) for value in ((3, ((3, 1, 0, 1),), None), (None, ((5, 2, 0, 1), (7, 1, 0, 1)), None), (None, ((5, 2, 0, 1),), 7), (3, (), 3), (5, (), -5))]
    [('order', 0), ('order', 1), ('since',), ('since',), ('since',)]
    >>> [signal_error((None, bursts, None)) for bursts in (((5, 2, 0, 1), (8, 2, 0, 1)), ((5, 2, 1, 2), (11, 2, 0, 1)), ((5, 2, 1, 2), (12, 2, 0, 1)))]
    [('joined', 0), ('joined', 0), None]
'''

A7 = '''
    >>> [is_on(some, tick) for tick in (-10 ** 30, 2, 3, 6, 7, 21, 22, 40, 89, 90)]
    [True, True, False, True, False, True, False, True, False, True]
    >>> on_ticks(some, 0, 12), on_ticks(some, 0, 100), on_ticks(some, 9, 3), on_ticks((0, (), 0), 1, 10 ** 30), on_ticks((None, ((0, 1, 1, 10 ** 30),), None), 1, 10 ** 40) == 10 ** 30 - 1
    (7, 23, 0, 1000000000000000000000000000000, True)
'''


class TestExamples(unittest.TestCase):
    def test_signals(self):
        run(self, A7, run(self, A6))

    def test_the_runner_sees_each_example(self):
        self.assertEqual([len(pieces(text)) for text in (A6, A7)], [5, 2])


if __name__ == "__main__":
    unittest.main()
