"""Promise 5: run."""

import unittest

from tests.helper import (COLLECT, LARGEST, REGS, SMALLEST, ask, chain, clear, copy, joined, last, load, loop, new, run,
                          run_numbers, store)


class Done(unittest.TestCase):
    def test_the_empty_list(self):
        self.assertEqual(last(run()), [0, 0, 0, 0, 0])
        self.assertEqual(ask(new(3, 0, 4), run(), REGS, clear(3))[1:],
                         [[0, 0, 0, 0, 0], [0, 0, 0, 0, 1, 0, 0, 0, 0], [0, 1, 4, 0]])

    def test_each_operation(self):
        self.assertEqual(ask(run(new(7, 99, 5, 5)), run(copy(0, 7)), run(store(0, 4, 7)), run(load(3, 7, 4)), REGS,
                             run(clear(0)), run(clear(3)), run(clear(7)), run(COLLECT), REGS),
                         [[0, 1, 0, 0, 0]] * 4 + [[0, 1, 0, 0, 1, 0, 0, 0, 1]] +
                         [[0, 1, 0, 0, 0]] * 3 + [[0, 1, 0, 1, 5], [0] * 9])

    def test_the_same_as_one_by_one(self):
        operations = [new(0, 1, 2, 2), new(1, 1, 4, 1), store(0, 1, 1), store(1, 0, 0), clear(1), load(5, 0, 1),
                      copy(6, 5), new(5, 0, 8), clear(6), clear(0), COLLECT, new(1)]
        alone = ask(*operations, REGS)
        together = ask(run(*operations), REGS)
        self.assertEqual(together, [[0, 12, 0, 2, 6], alone[-1]])

    def test_objects_and_sizes_of_all_operations_are_told_together(self):
        self.assertEqual(last(run(new(0, 0, 10), new(0, 0, 200), new(0, 0, 3000), clear(0))), [0, 4, 0, 3, 3210])

    def test_more_objects_go_than_are_held_at_once(self):
        self.assertEqual(last(run(*[new(0, 0, 1000000)] * 400)), [0, 400, 0, 399, 399000000])

    def test_what_went_before_is_not_told_again(self):
        self.assertEqual(ask(run(new(0, 0, 5), clear(0)), run(new(0, 0, 6)), run(clear(0))),
                         [[0, 2, 0, 1, 5], [0, 1, 0, 0, 0], [0, 1, 0, 1, 6]])

    def test_a_list_of_2000_numbers(self):
        self.assertEqual(last(run_numbers(COLLECT * 2000)), [0, 2000, 0, 0, 0])
        self.assertEqual(last(run_numbers(clear(7) * 1000)), [0, 1000, 0, 0, 0])


class Ended(unittest.TestCase):
    def check(self, refused, number):
        """The refused operation stands between two that are done."""
        with self.subTest(refused=refused):
            line = [run(new(0, 0, 7, 1), new(0, 0, 8, 1), refused, clear(0)), REGS, clear(0)]
            self.assertEqual(ask(*line), [[0, 2, number, 1, 7], [0, 2, 0, 0, 0, 0, 0, 0, 0], [0, 1, 8, 1]])

    def test_registers(self):
        for wrong in (8, LARGEST):
            for refused in (new(wrong), copy(wrong, 0), copy(0, wrong), load(wrong, 0, 0), load(0, wrong, 0),
                            store(wrong, 0, 0), store(0, 0, wrong), clear(wrong)):
                self.check(refused, 3)

    def test_nothing_held_and_no_slot(self):
        self.check(load(0, 1, 0), 4)
        self.check(store(1, 0, 0), 4)
        for wrong in (1, LARGEST):
            self.check(load(0, 0, wrong), 10)
            self.check(store(0, wrong, 0), 10)

    def test_kinds_sizes_and_slots(self):
        for wrong in (new(0, 100), new(0, 0, 1000001), new(0, 0, 0, 6), new(0, LARGEST), new(0, 0, LARGEST),
                      new(0, 0, 0, LARGEST)):
            self.check(wrong, 7)

    def test_32_held(self):
        self.assertEqual(ask(chain(32), run(clear(7), new(7), clear(0)), run(clear(0)))[1:],
                         [[0, 1, 9, 0, 0], [0, 1, 0, 32, 32]])

    def test_the_first_of_the_refusals_that_are_due(self):
        self.check(new(8, 100), 3)
        self.check(load(8, 1, 9), 3)
        self.check(store(1, 9, 0), 4)

    def test_the_first_operation(self):
        self.assertEqual(ask(run(clear(8), new(0)), REGS), [[0, 0, 3, 0, 0], [0] * 9])

    def test_only_the_first_refusal_is_told(self):
        self.assertEqual(last(run(new(0, 0, 0, 0), load(0, 0, 0), clear(8))), [0, 1, 10, 0, 0])


class Refused(unittest.TestCase):
    def check(self, numbers):
        with self.subTest(numbers=numbers):
            self.assertEqual(ask(new(0, 0, 3), run_numbers(numbers), REGS, clear(0))[1:],
                             [[-12], [0, 1, 0, 0, 0, 0, 0, 0, 0], [0, 1, 3, 0]])

    def test_no_operation_has_the_number(self):
        for wrong in (6, 7, 15, LARGEST):
            self.check([wrong])
            self.check(clear(0) + [wrong])
            self.check([wrong] + clear(0))

    def test_a_number_below_0(self):
        for wrong in (-1, -5, SMALLEST):
            self.check([wrong])
            self.check(clear(0) + [wrong])
            for operation in (new(0), copy(0, 0), load(0, 0, 0), store(0, 0, 0), clear(0)):
                for place in range(len(operation)):
                    numbers = list(operation)
                    numbers[place] = wrong
                    self.check(numbers)
                    self.check(clear(0) + numbers)

    def test_it_ends_in_the_midst_of_an_operation(self):
        for operation in (new(0), copy(0, 0), load(0, 0, 0), store(0, 0, 0), clear(0)):
            for length in range(1, len(operation)):
                self.check(operation[:length])
                self.check(clear(0) + operation[:length])

    def test_an_argument_too_many(self):
        self.check(clear(0) + [9])
        self.check(COLLECT + [6])

    def test_ahead_of_the_refusal_of_an_operation(self):
        self.check(clear(8) + [4])
        self.check(clear(8) + clear(-1))
        self.check(clear(0) + clear(8) + [6])


class WithinALine(unittest.TestCase):
    def test_calls_behind_a_refused_run_are_answered(self):
        self.assertEqual(ask(run_numbers([4]), run(new(0)), run_numbers([7, 7]), REGS),
                         [[-12], [0, 1, 0, 0, 0], [-12], [0, 1, 0, 0, 0, 0, 0, 0, 0]])

    def test_suspects_of_a_run_stay_suspects(self):
        self.assertEqual(ask(loop(0, 1), loop(1, 2), run(clear(1), clear(0)), COLLECT)[2:],
                         [[0, 2, 0, 0, 0], [0, 2, 3, 1, 0]])

    def test_numbers_of_operations_are_joined_as_told(self):
        self.assertEqual(run(clear(1), COLLECT), [6, 3] + joined([[4, 1], [5]]))


if __name__ == "__main__":
    unittest.main()
