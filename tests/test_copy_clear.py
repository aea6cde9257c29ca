"""Promise 2: copy and clear; with them the counting of holders and the order of what goes."""

import unittest

from tests.helper import COLLECT, LARGEST, REGS, SMALLEST, ask, clear, copy, last, loop, new, store


class Copied(unittest.TestCase):
    def test_both_registers_hold_it(self):
        self.assertEqual(ask(new(0), copy(7, 0), REGS)[1:], [[0, 0, 0], [0, 1, 0, 0, 0, 0, 0, 0, 1]])

    def test_it_goes_with_its_last_register(self):
        self.assertEqual(ask(new(7, 0, 9), copy(0, 7), clear(7), REGS, clear(0), REGS)[2:],
                         [[0, 0, 0], [0, 1, 0, 0, 0, 0, 0, 0, 0], [0, 1, 9, 0], [0] * 9])

    def test_what_was_there_before_goes(self):
        self.assertEqual(last(new(0, 0, 3), new(1, 0, 4), copy(0, 1)), [0, 1, 3, 0])

    def test_nothing_is_copied_too(self):
        self.assertEqual(ask(new(0, 0, 3), copy(0, 5), REGS)[1:], [[0, 1, 3, 0], [0] * 9])
        self.assertEqual(last(copy(0, 7)), [0, 0, 0])

    def test_a_register_onto_itself_lets_nothing_go(self):
        self.assertEqual(ask(new(2, 0, 3), copy(2, 2), REGS, clear(2))[1:],
                         [[0, 0, 0], [0, 0, 0, 1, 0, 0, 0, 0, 0], [0, 1, 3, 0]])
        self.assertEqual(last(copy(2, 2)), [0, 0, 0])

    def test_the_other_holder_counts(self):
        self.assertEqual(ask(new(0, 0, 1), copy(1, 0), copy(2, 0), clear(0), clear(0), clear(1), clear(2))[3:],
                         [[0, 0, 0], [0, 0, 0], [0, 0, 0], [0, 1, 1, 0]])


class Cleared(unittest.TestCase):
    def test_registers_0_and_7(self):
        self.assertEqual(ask(new(0, 0, 1), new(7, 0, 2), clear(0), REGS, clear(7), REGS)[2:],
                         [[0, 1, 1, 0], [0, 0, 0, 0, 0, 0, 0, 0, 2], [0, 1, 2, 1], [0] * 9])

    def test_an_empty_register(self):
        self.assertEqual(ask(clear(0), clear(7), REGS), [[0, 0, 0], [0, 0, 0], [0] * 9])

    def test_what_only_a_slot_held_goes_before_the_next_slot(self):
        line = [new(0, 0, 1, 3), new(1, 0, 10, 1), new(2, 0, 100), new(3, 0, 1000),
                store(0, 0, 1), store(0, 2, 2), store(1, 0, 3), clear(1), clear(2), clear(3), clear(0)]
        self.assertEqual(last(*line), [0, 4, 1111, 0, 1, 3, 2])

    def test_what_two_slots_of_one_object_held_goes_with_the_second(self):
        line = [new(0, 0, 0, 3), new(1), new(2), store(0, 0, 1), store(0, 1, 2), store(0, 2, 1),
                clear(1), clear(2), clear(0)]
        self.assertEqual(last(*line), [0, 3, 0, 0, 2, 1])

    def test_what_another_holds_stays(self):
        line = [new(0, 0, 5, 1), new(1, 0, 6), store(0, 0, 1), clear(0), REGS, clear(1)]
        self.assertEqual(ask(*line)[3:], [[0, 1, 5, 0], [0, 0, 2, 0, 0, 0, 0, 0, 0], [0, 1, 6, 1]])

    def test_a_ring_is_held_by_itself(self):
        self.assertEqual(ask(loop(0), clear(0), new(0))[1:], [[0, 0, 0], [0, 1, 0, 0]])


class Suspects(unittest.TestCase):
    """The order of the suspects shows in the order in which rings go when they are collected."""

    def collected(self, *calls):
        """What goes of rings 0 (registers 0 and 2), 1 (register 1) and 2 (register 3) after these calls."""
        answer = last(loop(0), loop(1), copy(2, 0), loop(3), COLLECT, *calls, COLLECT)
        return answer[3:]

    def test_in_the_order_in_which_they_came(self):
        self.assertEqual(self.collected(clear(1), clear(3), clear(0), clear(2)), [1, 2, 0])

    def test_a_suspect_keeps_its_place(self):
        self.assertEqual(self.collected(clear(2), clear(1), clear(0)), [0, 1])

    def test_one_holder_more_and_it_is_no_suspect(self):
        self.assertEqual(self.collected(clear(2), copy(5, 0), clear(1), clear(5), clear(0)), [1, 0])

    def test_a_register_onto_itself_makes_a_suspect(self):
        self.assertEqual(self.collected(copy(3, 3), clear(1), clear(3)), [2, 1])

    def test_a_register_onto_itself_puts_a_suspect_behind(self):
        self.assertEqual(self.collected(clear(2), clear(1), copy(0, 0), clear(0)), [1, 0])

    def test_storing_what_is_there_puts_a_suspect_behind(self):
        self.assertEqual(self.collected(clear(2), clear(1), store(0, 0, 0), clear(0)), [1, 0])

    def test_a_suspect_that_went_is_none_any_more(self):
        line = [new(5, 0, 0, 1), copy(6, 5), clear(6), clear(5), clear(1), loop(6), clear(3), clear(6)]
        self.assertEqual(self.collected(*line), [1, 2, 3])

    def test_what_a_gone_object_held_is_a_suspect(self):
        self.assertEqual(self.collected(new(5, 0, 0, 1), store(5, 0, 3), clear(5), clear(1), clear(3)), [2, 1])


class Refused(unittest.TestCase):
    def test_registers(self):
        for wrong in (-1, 8, LARGEST, SMALLEST):
            for call in (copy(wrong, 0), copy(0, wrong), copy(wrong, wrong), clear(wrong)):
                with self.subTest(call=call):
                    self.assertEqual(ask(new(0), call, REGS, clear(0))[1:],
                                     [[-3], [0, 1, 0, 0, 0, 0, 0, 0, 0], [0, 1, 0, 0]])

    def test_registers_0_and_7_are_there(self):
        self.assertEqual(ask(copy(0, 7), copy(7, 0), clear(0), clear(7)), [[0, 0, 0]] * 4)


if __name__ == "__main__":
    unittest.main()
