"""The whole example at the end of the promises."""

import unittest

from holdercounts.machines import answers
from tests.helper import COLLECT, OBJECTS, ROW, SUSPECTS, TRIAL, WASTE, ask, clear, new, run_numbers, store


class Example(unittest.TestCase):
    def test_the_ring(self):
        line = [new(0, 1, 10, 2), new(1, 1, 20, 1), store(0, 0, 1), store(1, 0, 0), clear(1), SUSPECTS, TRIAL,
                clear(0), WASTE, SUSPECTS, TRIAL, COLLECT]
        self.assertEqual(ask(*line), [[0, 0, 0, 0], [0, 1, 0, 0], [0, 0, 0], [0, 0, 0], [0, 0, 0], [0, 1],
                                      [0, 1, 0, 1, 0, 1, 1], [0, 0, 0], [0, 30, 0, 1], [0, 1, 0],
                                      [0, 1, 0, 0, 0, 0, 0], [0, 2, 30, 1, 0]])

    def test_the_run_that_is_ended(self):
        self.assertEqual(ask(run_numbers([0, 0, 2, 5, 1, 3, 0, 0, 0, 4, 0, 4, 9]), OBJECTS, ROW),
                         [[0, 3, 3, 0, 0], [0, 0, 2, 5, 1, 1, 1], [0, 1, 2, 5, 1, 0, 0, 0, 0]])

    def test_the_run_with_which_both_go(self):
        self.assertEqual(ask(run_numbers([0, 0, 0, 1, 1, 0, 1, 0, 2, 0, 3, 0, 0, 1, 4, 1, 4, 0])), [[0, 5, 0, 2, 3]])

    def test_as_the_interface_tells_it(self):
        calls = [0, 0, 1, 10, 2, 0, 1, 1, 20, 1, 3, 0, 0, 1, 3, 1, 0, 0, 4, 1, 11, 12, 4, 0, 10, 11, 12, 5]
        self.assertEqual(answers(calls), [4, 0, 0, 0, 0, 4, 0, 1, 0, 0, 3, 0, 0, 0, 3, 0, 0, 0, 3, 0, 0, 0, 2, 0, 1,
                                          7, 0, 1, 0, 1, 0, 1, 1, 3, 0, 0, 0, 4, 0, 30, 0, 1, 3, 0, 1, 0,
                                          7, 0, 1, 0, 0, 0, 0, 0, 5, 0, 2, 30, 1, 0])


if __name__ == "__main__":
    unittest.main()
