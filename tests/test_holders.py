"""Promise 8: holders, the registers and the slots that hold an object."""

import unittest

from tests.helper import (COLLECT, LARGEST, SMALLEST, ask, chain, clear, copy, holders, joined, last, loop, new, run,
                          store)


class Refused(unittest.TestCase):
    def test_a_new_machine(self):
        for o in (0, 1, 7, 31, 32, -1, -3, LARGEST, SMALLEST):
            self.assertEqual(last(holders(o)), [-3], o)

    def test_numbers_that_no_object_can_have(self):
        for o in (32, 33, -1, -32, LARGEST, SMALLEST):
            self.assertEqual(last(chain(32), holders(o)), [-3], o)

    def test_a_number_that_no_object_has_yet(self):
        self.assertEqual(ask(new(0), holders(1), new(1), holders(1))[1::2], [[-3], [0, 1, 1, 0]])

    def test_a_number_whose_object_went(self):
        self.assertEqual(ask(new(0), clear(0), holders(0), new(3), holders(0))[2::2], [[-3], [0, 1, 3, 0]])

    def test_a_number_whose_object_was_collected(self):
        self.assertEqual(ask(loop(0), clear(0), holders(0), COLLECT, holders(0))[2::2], [[0, 0, 1, 0, 0], [-3]])


class Told(unittest.TestCase):
    def test_registers_in_order(self):
        line = [new(4), new(0), copy(7, 4), copy(2, 4), holders(0), holders(1)]
        self.assertEqual(ask(*line)[4:], [[0, 3, 2, 4, 7, 0], [0, 1, 0, 0]])

    def test_all_registers(self):
        self.assertEqual(last(new(0), *[copy(r, 0) for r in range(1, 8)], holders(0)),
                         [0, 8, 0, 1, 2, 3, 4, 5, 6, 7, 0])

    def test_an_object_that_holds_itself(self):
        self.assertEqual(last(loop(6, 0, 2), holders(0)), [0, 1, 6, 1, 0, 0])

    def test_several_slots_of_one_object(self):
        line = [new(0, 0, 0, 5), new(1), store(0, 4, 1), store(0, 0, 1), store(0, 2, 1), clear(1), holders(1)]
        self.assertEqual(last(*line), [0, 0, 3, 0, 0, 0, 2, 0, 4])

    def test_objects_rising_then_slots_in_order(self):
        line = [new(2, 0, 0, 2), new(1, 0, 0, 3), new(0, 0, 0, 1), store(0, 0, 1), store(1, 2, 1), store(2, 1, 1),
                store(1, 1, 1), holders(1), holders(0), holders(2)]
        self.assertEqual(ask(*line)[7:], [[0, 1, 1, 4, 0, 1, 1, 1, 1, 2, 2, 0], [0, 1, 2, 0], [0, 1, 0, 0]])

    def test_objects_rising_when_a_number_was_given_anew(self):
        line = [new(0), new(1, 0, 0, 1), clear(0), new(3, 0, 0, 1), store(1, 0, 1), store(3, 0, 1), holders(1)]
        self.assertEqual(last(*line), [0, 1, 1, 2, 0, 0, 1, 0])

    def test_slots_of_waste_are_holders(self):
        self.assertEqual(ask(loop(0, 0, 2), new(1), store(0, 1, 1), clear(0), holders(1), COLLECT, holders(1))[4::2],
                         [[0, 1, 1, 1, 0, 1], [0, 1, 1, 0]])

    def test_slots_of_what_went_are_none(self):
        self.assertEqual(ask(new(0, 0, 0, 2), new(1), store(0, 1, 1), holders(1), clear(0), holders(1))[3::2],
                         [[0, 1, 1, 1, 0, 1], [0, 1, 1, 0]])

    def test_a_slot_that_was_given_something_else(self):
        line = [loop(0), new(1), holders(0), store(0, 0, 1), holders(0), holders(1), store(0, 0, 7), holders(1)]
        told = ask(*line)
        self.assertEqual([told[place] for place in (2, 4, 5, 7)],
                         [[0, 1, 0, 1, 0, 0], [0, 1, 0, 0], [0, 1, 1, 1, 0, 0], [0, 1, 1, 0]])

    def test_the_first_and_the_last_number(self):
        self.assertEqual(ask(chain(32), holders(0), holders(30), holders(31))[1:],
                         [[0, 0, 1, 1, 0], [0, 0, 1, 31, 0], [0, 1, 0, 0]])

    def test_129_slots(self):
        # Object 0 holds itself in all its slots; each other one holds the one before it in one slot and 0 in the rest.
        made = [new(0, 0, 0, 5)] + [store(0, i, 0) for i in range(5)]
        for _ in range(31):
            made += [new(1, 0, 0, 5), store(1, 0, 2)] + [store(1, i, 0) for i in range(1, 5)] + [copy(2, 1), clear(1)]
        slots = [[0, i] for i in range(5)] + [[number, i] for number in range(1, 32) for i in range(1, 5)]
        self.assertEqual(last(run(*made), holders(0)), [0, 1, 0, 129] + joined(slots))


if __name__ == "__main__":
    unittest.main()
