"""Promise 6: totals, what was made and what went in all, by whichever call, and what is held."""

import unittest

from tests.helper import COLLECT, TOTALS, ask, chain, clear, copy, last, load, loop, new, run, run_numbers, store


class Made(unittest.TestCase):
    def test_a_new_machine(self):
        self.assertEqual(last(TOTALS), [0, 0, 0, 0, 0, 0, 0])

    def test_by_new(self):
        self.assertEqual(last(new(0, 0, 3), new(1, 0, 1000000), TOTALS), [0, 2, 1000003, 0, 0, 2, 1000003])

    def test_by_a_run(self):
        self.assertEqual(last(run(new(0, 0, 3), new(1, 0, 4)), new(2, 0, 5), TOTALS), [0, 3, 12, 0, 0, 3, 12])

    def test_by_a_run_that_a_refusal_ended(self):
        line = [run(new(0, 0, 3), new(1, 0, 4), clear(0), clear(8), new(2, 0, 50), clear(1)), TOTALS]
        self.assertEqual(ask(*line), [[0, 3, 3, 1, 3], [0, 2, 7, 1, 3, 1, 4]])

    def test_nothing_by_a_list_that_is_not_operations(self):
        self.assertEqual(ask(run_numbers([0, 0, 0, 3, 0, 6]), TOTALS), [[-12], [0, 0, 0, 0, 0, 0, 0]])

    def test_nothing_by_a_refused_call(self):
        line = [new(8, 0, 1), new(0, 100, 1), new(0, 0, 1000001), new(0, 0, -1), new(0, 0, 1, 6), TOTALS]
        self.assertEqual(last(*line), [0, 0, 0, 0, 0, 0, 0])

    def test_nothing_by_a_new_when_32_are_held(self):
        self.assertEqual(ask(chain(32), new(1, 0, 9), TOTALS)[1:], [[-9], [0, 32, 32, 0, 0, 32, 32]])

    def test_a_number_that_is_given_anew_counts_again(self):
        line = [new(0, 0, 3), clear(0), new(0, 0, 40), TOTALS]
        self.assertEqual(last(*line), [0, 2, 43, 1, 3, 1, 40])


class Went(unittest.TestCase):
    def test_by_clear_copy_load_and_new(self):
        for less in (clear(0), copy(0, 7), load(0, 1, 0)):
            self.assertEqual(last(new(0, 0, 3), new(1, 0, 40, 1), less, TOTALS), [0, 2, 43, 1, 3, 1, 40], less)
        self.assertEqual(last(new(0, 0, 3), new(0, 0, 40), TOTALS), [0, 2, 43, 1, 3, 1, 40])

    def test_by_store(self):
        line = [new(0, 0, 3, 1), new(1, 0, 40), store(0, 0, 1), clear(1), TOTALS, store(0, 0, 7), TOTALS]
        self.assertEqual(ask(*line)[4::2], [[0, 2, 43, 0, 0, 2, 43], [0, 2, 43, 1, 40, 1, 3]])

    def test_by_collect(self):
        line = [loop(0, 3), loop(1, 40), clear(0), TOTALS, COLLECT, TOTALS]
        self.assertEqual(ask(*line)[3::2], [[0, 2, 43, 0, 0, 2, 43], [0, 2, 43, 1, 3, 1, 40]])

    def test_by_the_operations_of_a_run(self):
        operations = [new(0, 0, 3), clear(0), new(0, 0, 40, 1), store(0, 0, 0), clear(0), COLLECT, new(1, 0, 500)]
        self.assertEqual(last(run(*operations), TOTALS), [0, 3, 543, 2, 43, 1, 500])

    def test_what_goes_with_another(self):
        self.assertEqual(last(chain(32), clear(0), TOTALS), [0, 32, 32, 32, 32, 0, 0])

    def test_nothing_by_a_refused_call(self):
        line = [new(0, 0, 3, 1), clear(8), copy(0, 8), load(0, 1, 0), load(0, 0, 1), store(0, 1, 1), new(0, 0, 0, 6),
                TOTALS]
        self.assertEqual(last(*line), [0, 1, 3, 0, 0, 1, 3])

    def test_waste_is_held(self):
        self.assertEqual(last(loop(0, 3), clear(0), TOTALS), [0, 1, 3, 0, 0, 1, 3])

    def test_large_numbers(self):
        # 7 runs of 400 objects of the largest size; the last one alone is held.
        line = [run(*[new(0, 0, 1000000)] * 400)] * 7 + [TOTALS]
        self.assertEqual(last(*line), [0, 2800, 2800000000, 2799, 2799000000, 1, 1000000])


if __name__ == "__main__":
    unittest.main()
