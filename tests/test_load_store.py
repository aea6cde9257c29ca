"""Promise 3: load and store."""

import unittest

from tests.helper import COLLECT, LARGEST, REGS, SMALLEST, ask, clear, copy, last, load, new, run, store


class Loaded(unittest.TestCase):
    def test_from_the_first_and_the_last_slot(self):
        for n in (1, 5):
            for i in (0, n - 1):
                with self.subTest(n=n, i=i):
                    line = [new(7, 0, 0, n), new(1), store(7, i, 1), clear(1), load(0, 7, i), REGS]
                    self.assertEqual(ask(*line)[4:], [[0, 0, 0], [0, 2, 0, 0, 0, 0, 0, 0, 1]])

    def test_the_register_counts_as_a_holder(self):
        line = [new(0, 0, 2, 1), new(1, 0, 3), store(0, 0, 1), clear(1), load(7, 0, 0), clear(0), clear(7)]
        self.assertEqual(ask(*line)[5:], [[0, 1, 2, 0], [0, 1, 3, 1]])

    def test_the_slot_keeps_it(self):
        line = [new(0, 0, 2, 1), new(1, 0, 3), store(0, 0, 1), load(1, 0, 0), clear(1), load(1, 0, 0), REGS]
        self.assertEqual(last(*line), [0, 1, 2, 0, 0, 0, 0, 0, 0])

    def test_into_the_register_of_its_object(self):
        line = [new(0, 0, 2, 1), new(1, 0, 3), store(0, 0, 1), clear(1), load(0, 0, 0), REGS, clear(0)]
        self.assertEqual(ask(*line)[4:], [[0, 1, 2, 0], [0, 2, 0, 0, 0, 0, 0, 0, 0], [0, 1, 3, 1]])

    def test_an_empty_slot_empties_the_register(self):
        self.assertEqual(ask(new(0, 0, 2, 1), new(1, 0, 3), load(1, 0, 0), load(0, 0, 0), REGS)[2:],
                         [[0, 1, 3, 1], [0, 1, 2, 0], [0] * 9])


class Stored(unittest.TestCase):
    def test_in_the_first_and_the_last_slot(self):
        for i in (0, 4):
            with self.subTest(i=i):
                line = [new(0, 0, 2, 5), new(7, 0, 3), store(0, i, 7), clear(7), clear(0)]
                self.assertEqual(ask(*line)[2:], [[0, 0, 0], [0, 0, 0], [0, 2, 5, 0, 1]])

    def test_registers_7_and_0(self):
        line = [new(7, 0, 2, 5), new(0, 0, 3), store(7, 0, 0), clear(0), clear(7)]
        self.assertEqual(last(*line), [0, 2, 5, 0, 1])

    def test_each_slot_keeps_its_own(self):
        line = [new(0, 0, 0, 2), new(1), new(2), store(0, 0, 1), store(0, 1, 2), load(3, 0, 0), load(4, 0, 1), REGS]
        self.assertEqual(last(*line), [0, 1, 2, 3, 2, 3, 0, 0, 0])

    def test_what_the_slot_held_before_goes(self):
        line = [new(0, 0, 0, 1), new(1, 0, 4), store(0, 0, 1), clear(1), new(1, 0, 5), store(0, 0, 1), clear(1),
                store(0, 0, 1)]
        self.assertEqual(ask(*line)[5:], [[0, 1, 4, 1], [0, 0, 0], [0, 1, 5, 2]])

    def test_what_is_there_already_stays(self):
        line = [new(0, 0, 0, 1), new(1, 0, 4), store(0, 0, 1), store(0, 0, 1), clear(1), clear(0)]
        self.assertEqual(ask(*line)[3:], [[0, 0, 0], [0, 0, 0], [0, 2, 4, 0, 1]])

    def test_nothing_in_an_empty_slot(self):
        self.assertEqual(last(new(0, 0, 0, 1), store(0, 0, 7)), [0, 0, 0])

    def test_an_object_in_itself(self):
        line = [new(0, 0, 6, 2), store(0, 0, 0), store(0, 1, 0), copy(1, 0), clear(0), store(1, 0, 2), store(1, 1, 2),
                clear(1)]
        self.assertEqual(ask(*line)[3:], [[0, 0, 0], [0, 0, 0], [0, 0, 0], [0, 0, 0], [0, 1, 6, 0]])

    def test_what_the_old_one_held_goes_too(self):
        line = [run(new(0, 0, 1, 1), new(1, 0, 2, 1), new(2, 0, 4), store(1, 0, 2), store(0, 0, 1)),
                clear(2), clear(1), store(0, 0, 7), COLLECT, REGS]
        self.assertEqual(ask(*line)[3:], [[0, 2, 6, 1, 2], [0, 0, 0], [0, 1, 0, 0, 0, 0, 0, 0, 0]])


class Refused(unittest.TestCase):
    def check(self, call, wanted):
        """Register 0 holds an object with 2 slots, register 1 one without slots, and register 2 nothing."""
        with self.subTest(call=call):
            line = [new(0, 0, 1, 2), new(1, 0, 2), call, REGS, clear(0), clear(1)]
            self.assertEqual(ask(*line)[2:], [wanted, [0, 1, 2, 0, 0, 0, 0, 0, 0], [0, 1, 1, 0], [0, 1, 2, 1]])

    def test_registers(self):
        for wrong in (-1, 8, LARGEST, SMALLEST):
            self.check(load(wrong, 0, 0), [-3])
            self.check(load(1, wrong, 0), [-3])
            self.check(store(wrong, 0, 1), [-3])
            self.check(store(0, 0, wrong), [-3])

    def test_a_register_that_holds_nothing(self):
        for empty in (2, 7):
            self.check(load(0, empty, 0), [-4])
            self.check(store(empty, 0, 0), [-4])

    def test_slots(self):
        for wrong in (-1, 2, 5, LARGEST, SMALLEST):
            self.check(load(1, 0, wrong), [-10])
            self.check(store(0, wrong, 1), [-10])

    def test_an_object_without_slots(self):
        for wrong in (-1, 0, 1):
            self.check(load(0, 1, wrong), [-10])
            self.check(store(1, wrong, 0), [-10])

    def test_the_first_of_the_refusals_that_are_due(self):
        self.check(load(8, 2, 9), [-3])
        self.check(store(2, 9, 8), [-3])
        self.check(load(8, 0, 9), [-3])
        self.check(store(0, 9, 8), [-3])
        self.check(load(0, 2, 9), [-4])
        self.check(store(2, 9, 0), [-4])
        self.check(load(0, 2, -1), [-4])
        self.check(store(2, -1, 0), [-4])


if __name__ == "__main__":
    unittest.main()
