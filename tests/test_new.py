"""Promise 1: new."""

import unittest

from tests.helper import COLLECT, LARGEST, REGS, SMALLEST, ask, chain, clear, copy, last, load, loop, new, run, store


class Made(unittest.TestCase):
    def test_numbers_rise_from_0(self):
        self.assertEqual(ask(new(3), new(0), new(5), REGS),
                         [[0, 0, 0, 0], [0, 1, 0, 0], [0, 2, 0, 0], [0, 2, 0, 0, 1, 0, 3, 0, 0]])

    def test_the_least_free_number_is_taken(self):
        makes = run(new(0), new(1), new(2), new(3), clear(1), clear(2))
        self.assertEqual(ask(makes, new(4), new(5), new(6))[1:], [[0, 1, 0, 0], [0, 2, 0, 0], [0, 4, 0, 0]])

    def test_what_the_register_held_goes_when_the_new_one_is_there(self):
        self.assertEqual(ask(new(0, 0, 7), new(0, 0, 8), new(0, 0, 9)),
                         [[0, 0, 0, 0], [0, 1, 1, 7, 0], [0, 0, 1, 8, 1]])

    def test_what_is_held_elsewhere_stays(self):
        self.assertEqual(ask(new(0, 0, 7), copy(1, 0), new(0), REGS, clear(1))[2:],
                         [[0, 1, 0, 0], [0, 2, 1, 0, 0, 0, 0, 0, 0], [0, 1, 7, 0]])

    def test_the_count_of_a_new_object_is_1(self):
        self.assertEqual(last(new(0, 0, 5), clear(0)), [0, 1, 5, 0])

    def test_its_slots_hold_nothing(self):
        line = [new(0, 0, 0, 2), new(1), load(1, 0, 0), new(1), load(1, 0, 1), REGS]
        self.assertEqual(ask(*line)[2:], [[0, 1, 0, 1], [0, 1, 0, 0], [0, 1, 0, 1], [0, 1, 0, 0, 0, 0, 0, 0, 0]])

    def test_what_an_object_had_is_not_kept_for_its_number(self):
        line = [new(0, 0, 3, 1), new(1), store(0, 0, 1), clear(0), new(0, 0, 4, 1), load(2, 0, 0), REGS, clear(0)]
        self.assertEqual(ask(*line)[3:], [[0, 1, 3, 0], [0, 0, 0, 0], [0, 0, 0],
                                          [0, 1, 2, 0, 0, 0, 0, 0, 0], [0, 1, 4, 0]])


class Edges(unittest.TestCase):
    def test_first_and_last_of_each_range(self):
        for r in (0, 7):
            for kind in (0, 99):
                for size in (0, 1000000):
                    for n in (0, 5):
                        with self.subTest(r=r, kind=kind, size=size, n=n):
                            self.assertEqual(ask(new(r, kind, size, n), clear(r)), [[0, 0, 0, 0], [0, 1, size, 0]])

    def test_as_many_slots_as_told(self):
        for n in range(6):
            for i in range(-1, 7):
                with self.subTest(n=n, i=i):
                    wanted = [0, 0, 0] if 0 <= i < n else [-10]
                    self.assertEqual(last(new(0, 0, 0, n), load(1, 0, i)), wanted)

    def test_32_objects_are_held_and_no_more(self):
        self.assertEqual(ask(chain(31), new(7), new(7), new(6), REGS)[1:],
                         [[0, 31, 0, 0], [-9], [-9], [0, 31, 0, 0, 0, 0, 0, 0, 32]])

    def test_32_held_are_too_many_though_the_register_would_let_one_go(self):
        self.assertEqual(ask(chain(32), new(0), clear(0), new(0))[1:],
                         [[-9], [0, 32, 32] + list(range(31, -1, -1)), [0, 0, 0, 0]])

    def test_waste_is_held_until_it_is_collected(self):
        self.assertEqual(ask(loop(7), clear(7), chain(31), new(7), COLLECT, new(7))[3:],
                         [[-9], [0, 1, 0, 0], [0, 0, 0, 0]])


class Refused(unittest.TestCase):
    def test_registers(self):
        for r in (-1, 8, LARGEST, SMALLEST):
            with self.subTest(r=r):
                self.assertEqual(ask(new(r), REGS), [[-3], [0] * 9])

    def test_kinds_sizes_and_slots(self):
        wrong = [(-1, 0, 0), (100, 0, 0), (0, -1, 0), (0, 1000001, 0), (0, 0, -1), (0, 0, 6)]
        for far in (LARGEST, SMALLEST):
            wrong += [(far, 0, 0), (0, far, 0), (0, 0, far)]
        for kind, size, n in wrong:
            with self.subTest(kind=kind, size=size, n=n):
                self.assertEqual(ask(new(0, kind, size, n), REGS, new(0)), [[-7], [0] * 9, [0, 0, 0, 0]])

    def test_the_first_of_the_refusals_that_are_due(self):
        self.assertEqual(last(new(8, 100)), [-3])
        self.assertEqual(ask(chain(32), new(8, 100), new(8), new(0, 100), new(0, 0, -1), new(0, 0, 0, 6), new(0))[1:],
                         [[-3], [-3], [-7], [-7], [-7], [-9]])


if __name__ == "__main__":
    unittest.main()
