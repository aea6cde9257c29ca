"""The example at the end of the promises, as far as the calls are built."""

import unittest

from tests.helper import COLLECT, REGS, ask, clear, new, run_numbers, store


class Example(unittest.TestCase):
    def test_the_ring(self):
        self.assertEqual(ask(new(0, 1, 10, 2), new(1, 1, 20, 1), store(0, 0, 1), store(1, 0, 0), clear(1), clear(0),
                             COLLECT),
                         [[0, 0, 0, 0], [0, 1, 0, 0], [0, 0, 0], [0, 0, 0], [0, 0, 0], [0, 0, 0], [0, 2, 30, 1, 0]])

    def test_the_run_that_is_ended(self):
        self.assertEqual(ask(run_numbers([0, 0, 2, 5, 1, 3, 0, 0, 0, 4, 0, 4, 9]), REGS, COLLECT),
                         [[0, 3, 3, 0, 0], [0] * 9, [0, 1, 5, 0]])

    def test_the_run_with_which_both_go(self):
        self.assertEqual(ask(run_numbers([0, 0, 0, 1, 1, 0, 1, 0, 2, 0, 3, 0, 0, 1, 4, 1, 4, 0]), REGS),
                         [[0, 5, 0, 2, 3], [0] * 9])


if __name__ == "__main__":
    unittest.main()
