"""Promise 7: row, the machine's graph row."""

import unittest

from tests.helper import COLLECT, ROW, ask, chain, clear, copy, joined, last, loop, new, run, store


class Row(unittest.TestCase):
    def test_a_new_machine(self):
        self.assertEqual(last(ROW), [0, 0, 0])

    def test_registers_that_hold_something_in_order(self):
        line = [new(5, 1, 10), new(3, 2, 20), copy(7, 5), new(0, 99, 1000000), ROW]
        self.assertEqual(last(*line), [0, 3, 1, 10, 0, 2, 20, 0, 99, 1000000, 0, 4, 2, 1, 0, 0])

    def test_all_registers(self):
        self.assertEqual(last(new(0, 4, 5), *[copy(r, 0) for r in range(1, 8)], ROW), [0, 1, 4, 5, 0, 8] + [0] * 8)

    def test_slots_that_hold_nothing_are_left_out(self):
        self.assertEqual(last(new(0, 1, 2, 5), ROW), [0, 1, 1, 2, 0, 1, 0])

    def test_slots_in_order(self):
        line = [new(0, 1, 2, 5), new(1, 3, 4), new(2, 5, 6), store(0, 1, 2), store(0, 3, 0), store(0, 4, 1), ROW]
        self.assertEqual(last(*line), [0, 3, 1, 2, 3, 1, 0, 2, 3, 0, 0, 4, 0, 1, 3, 4, 0, 5, 6, 0, 3, 0, 1, 2])

    def test_all_5_slots(self):
        line = [loop(0, 9, 5), *[store(0, i, 0) for i in range(1, 5)], clear(0), ROW]
        self.assertEqual(last(*line), [0, 1, 1, 9, 5, 0, 0, 0, 1, 0, 0, 2, 0, 0, 3, 0, 0, 4, 0, 0, 0])

    def test_several_slots_of_one_object_hold_another(self):
        line = [new(0, 1, 2, 3), new(1, 3, 4), store(0, 0, 1), store(0, 2, 1), clear(1), ROW]
        self.assertEqual(last(*line), [0, 2, 1, 2, 2, 0, 0, 1, 2, 0, 1, 3, 4, 0, 1, 0])

    def test_numbered_anew_from_0(self):
        # 1, 3 and 4 are left: they are told as 0, 1 and 2.
        line = [new(0), new(1, 11, 1, 1), new(2), new(3, 13, 3, 2), new(4, 14, 4), store(1, 0, 4), store(3, 0, 3),
                store(3, 1, 1), clear(0), clear(2), ROW]
        self.assertEqual(last(*line), [0, 3, 11, 1, 1, 0, 0, 2, 13, 3, 2, 0, 0, 1, 1, 0, 0, 14, 4, 0, 3, 0, 1, 2])

    def test_a_number_that_is_given_anew_stands_in_its_place(self):
        line = [new(0, 1, 1), new(1, 2, 2, 1), clear(0), new(5, 3, 3), store(1, 0, 5), ROW]
        self.assertEqual(last(*line), [0, 2, 3, 3, 0, 2, 2, 1, 0, 0, 0, 2, 1, 0])

    def test_waste_stands_there_until_it_goes(self):
        line = [loop(0, 6), new(1, 7, 8), clear(0), ROW, COLLECT, ROW]
        self.assertEqual(ask(*line)[3::2], [[0, 2, 1, 6, 1, 0, 0, 0, 7, 8, 0, 1, 1], [0, 1, 7, 8, 0, 1, 0]])

    def test_32_objects(self):
        wanted = [0, 32, 1, 1, 0]
        for number in range(1, 32):
            wanted += [1, 1, 1, 0, 0, number - 1]
        self.assertEqual(last(chain(32), ROW), wanted + [1, 31])

    def test_32_objects_with_5_slots(self):
        # Each but the first holds the one before it in all its slots.
        made = [new(1, 2, 3, 5)] + [store(1, i, 0) for i in range(5)] + [copy(0, 1)]
        wanted = [0, 32, 2, 3, 0]
        for number in range(1, 32):
            wanted += [2, 3, 5] + joined([[i, 0, number - 1] for i in range(5)])
        self.assertEqual(last(run(*made * 32), ROW), wanted + [2, 31, 31])


if __name__ == "__main__":
    unittest.main()
