"""Promise 6: objects, live and waste."""

import unittest

from tests.helper import COLLECT, LIVE, OBJECTS, WASTE, ask, chain, clear, copy, last, load, loop, new, run, store

# The objects 0 and 1 hold one another, and 1 holds 2 too; no register holds any of them.
LOST_RING = run(new(0, 1, 10, 1), new(1, 2, 200, 2), new(2, 3, 3000), store(0, 0, 1), store(1, 0, 0), store(1, 1, 2),
                clear(0), clear(1), clear(2))


class Objects(unittest.TestCase):
    def test_a_new_machine(self):
        self.assertEqual(last(OBJECTS), [0])

    def test_an_object_without_slots(self):
        self.assertEqual(last(new(3, 99, 1000000, 0), OBJECTS), [0, 0, 99, 1000000, 1, 0])

    def test_an_object_with_5_slots(self):
        self.assertEqual(last(new(3, 0, 0, 5), OBJECTS), [0, 0, 0, 0, 1, 5, 0, 0, 0, 0, 0])

    def test_slots_are_told_in_order_and_1_up(self):
        line = [new(0, 7, 8, 5), new(1, 5, 6), new(2, 3, 4), store(0, 1, 2), store(0, 3, 0), store(0, 4, 1), OBJECTS]
        self.assertEqual(last(*line), [0, 0, 7, 8, 2, 5, 0, 3, 0, 1, 2, 1, 5, 6, 2, 0, 2, 3, 4, 2, 0])

    def test_registers_and_slots_count(self):
        self.assertEqual(last(loop(0, 4), copy(7, 0), copy(3, 7), OBJECTS), [0, 0, 1, 4, 4, 1, 1])

    def test_several_slots_of_one_object_count_each(self):
        line = [new(0, 1, 1, 3), new(1, 2, 2), store(0, 0, 1), store(0, 2, 1), clear(1), OBJECTS]
        self.assertEqual(last(*line), [0, 0, 1, 1, 1, 3, 2, 0, 2, 1, 2, 2, 2, 0])

    def test_a_count_falls_and_rises(self):
        line = [new(0), copy(1, 0), OBJECTS, clear(0), OBJECTS, copy(2, 1), OBJECTS, copy(2, 2), OBJECTS]
        told = ask(*line)
        self.assertEqual([told[place][4] for place in (2, 4, 6, 8)], [2, 1, 2, 2])

    def test_a_count_falls_with_the_slots_of_what_was_collected(self):
        line = [loop(0, 0, 3), new(1, 4, 4), store(0, 1, 1), store(0, 2, 1), clear(0), COLLECT, OBJECTS]
        self.assertEqual(last(*line), [0, 1, 4, 4, 1, 0])

    def test_a_count_falls_with_the_slots_of_what_went(self):
        line = [new(0, 0, 0, 3), new(1, 4, 4), store(0, 1, 1), store(0, 2, 1), clear(0), OBJECTS]
        self.assertEqual(last(*line), [0, 1, 4, 4, 1, 0])

    def test_a_number_that_is_given_anew_stands_in_its_place(self):
        line = [new(0, 1, 1, 2), new(1, 2, 2), new(2, 3, 3), clear(0), clear(1), new(4, 5, 6, 1), new(5, 7, 8), OBJECTS]
        self.assertEqual(last(*line), [0, 0, 5, 6, 1, 1, 0, 1, 7, 8, 1, 0, 2, 3, 3, 1, 0])

    def test_32_objects(self):
        wanted = [0, 0, 1, 1, 1, 1, 0]
        for number in range(1, 32):
            wanted += [number, 1, 1, 1, 1, number]
        self.assertEqual(last(chain(32), OBJECTS), wanted)

    def test_waste_is_held_too(self):
        self.assertEqual(last(LOST_RING, OBJECTS), [0, 0, 1, 10, 1, 1, 2, 1, 2, 200, 1, 2, 1, 3, 2, 3, 3000, 1, 0])

    def test_a_refused_call_leaves_them(self):
        line = [new(0, 1, 1, 1), OBJECTS, store(0, 1, 0), load(0, 0, -1), copy(8, 0), new(0, 100), OBJECTS]
        told = ask(*line)
        self.assertEqual(told[-1], told[1])


class Live(unittest.TestCase):
    def test_a_new_machine(self):
        self.assertEqual(last(LIVE), [0])

    def test_rising_whatever_the_registers(self):
        self.assertEqual(last(*[new(7 - k) for k in range(8)], LIVE), [0, 0, 1, 2, 3, 4, 5, 6, 7])

    def test_each_once(self):
        self.assertEqual(last(loop(0, 0, 2), copy(1, 0), store(0, 1, 0), copy(7, 0), LIVE), [0, 0])

    def test_what_slots_hold_is_live_however_far(self):
        self.assertEqual(last(chain(32), LIVE), [0] + list(range(32)))

    def test_a_ring_that_a_register_holds(self):
        ring = run(new(0, 0, 0, 1), new(1, 0, 0, 1), store(0, 0, 1), store(1, 0, 0))
        self.assertEqual(ask(ring, clear(1), LIVE, clear(0), LIVE)[2:], [[0, 0, 1], [0, 0, 0], [0]])

    def test_what_waste_alone_holds_is_not_live(self):
        self.assertEqual(last(LOST_RING, new(7), LIVE), [0, 3])

    def test_what_waste_and_a_register_hold_is_live(self):
        self.assertEqual(last(loop(0, 0, 2), new(1), store(0, 1, 1), clear(0), LIVE), [0, 1])


class Waste(unittest.TestCase):
    def test_a_new_machine(self):
        self.assertEqual(last(WASTE), [0, 0])

    def test_what_is_live_is_no_waste(self):
        self.assertEqual(last(chain(32), loop(1, 5), WASTE), [0, 0])

    def test_an_object_that_holds_itself(self):
        self.assertEqual(ask(loop(0, 7), WASTE, clear(0), WASTE, COLLECT, WASTE)[1::2], [[0, 0], [0, 7, 0], [0, 0]])

    def test_what_waste_holds_is_waste(self):
        self.assertEqual(last(LOST_RING, WASTE), [0, 3210, 0, 1, 2])

    def test_what_waste_and_a_register_hold_is_none(self):
        self.assertEqual(last(loop(0, 3, 2), new(1, 0, 4), store(0, 1, 1), clear(0), WASTE), [0, 3, 0])

    def test_rising_whatever_went_from_the_registers_first(self):
        line = [loop(0, 1), loop(1, 10), loop(2, 100), clear(2), clear(0), clear(1), WASTE]
        self.assertEqual(last(*line), [0, 111, 0, 1, 2])

    def test_rising_when_a_number_was_given_anew(self):
        line = [new(0), loop(1, 10), new(0), loop(3, 100), clear(3), clear(1), WASTE]
        self.assertEqual(last(*line), [0, 110, 0, 1])

    def test_all_32_are_waste(self):
        line = [chain(32), copy(1, 0), run(*[load(1, 1, 0)] * 31), store(1, 0, 0), clear(1), clear(0), WASTE, LIVE]
        self.assertEqual(ask(*line)[-2:], [[0, 32] + list(range(32)), [0]])

    def test_sizes_of_nothing(self):
        self.assertEqual(last(loop(0, 0), clear(0), WASTE), [0, 0, 0])


if __name__ == "__main__":
    unittest.main()
