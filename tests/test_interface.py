"""The interface: the list of calls, the list of answers, and the call regs of promise 6; what holds over all calls."""

import unittest

from holdercounts.machines import answers
from tests.helper import (COLLECT, LARGEST, REGS, SMALLEST, VIEWS, ask, chain, clear, copy, holders, joined, last, load,
                          loop, new, run, run_numbers, store)

LINE = [new(0, 1, 10, 2), new(1, 2, 20, 1), store(0, 0, 1), store(1, 0, 0), copy(2, 1), loop(3, 5), clear(3), clear(1),
        load(4, 0, 0), run(new(5, 3, 7, 5), store(5, 4, 5), copy(6, 5), clear(5)), clear(0), clear(2), clear(4), REGS,
        COLLECT, new(1, 0, 1), new(0, 0, 2), clear(6)] + VIEWS + [COLLECT] + VIEWS

# Each is refused wherever it stands in the line above, whose register 7 never holds anything.
REFUSED = [new(8), new(-1, 100), new(0, 100), new(0, 0, 1000001), new(0, 0, 0, 6), copy(8, 0), copy(0, -1), clear(8),
           clear(SMALLEST), load(8, 0, 0), load(0, 7, 0), store(7, 0, 0), store(0, 0, LARGEST), run_numbers([6]),
           run_numbers([4, 0, 4]), run_numbers([4, 0, 5, -1]), holders(32), holders(-1), holders(LARGEST),
           holders(SMALLEST), holders(9)]


class Regs(unittest.TestCase):
    def test_a_new_machine(self):
        self.assertEqual(last(REGS), [0, 0, 0, 0, 0, 0, 0, 0, 0])

    def test_1_more_than_the_number_in_the_order_of_the_registers(self):
        self.assertEqual(last(*[new(7 - k) for k in range(8)], REGS), [0, 8, 7, 6, 5, 4, 3, 2, 1])

    def test_the_last_number(self):
        self.assertEqual(last(chain(32), REGS), [0, 32, 0, 0, 0, 0, 0, 0, 0])

    def test_it_changes_nothing(self):
        self.assertEqual(ask(new(4), REGS, REGS, clear(4), REGS)[1:],
                         [[0, 0, 0, 0, 0, 1, 0, 0, 0], [0, 0, 0, 0, 0, 1, 0, 0, 0], [0, 1, 0, 0], [0] * 9])


class Form(unittest.TestCase):
    def test_each_answer_has_its_length_ahead(self):
        self.assertEqual(answers([4, 8]), [1, -3])
        self.assertEqual(answers([5, 7]), [3, 0, 0, 0, 9, 0, 0, 0, 0, 0, 0, 0, 0, 0])
        self.assertEqual(answers([0, 0, 1, 10, 2, 4, 0, 6, 0, 6, 1, 9]), [4, 0, 0, 0, 0, 4, 0, 1, 10, 0,
                                                                           5, 0, 0, 0, 0, 0, 1, -12])

    def test_a_new_machine_asked_for_everything(self):
        self.assertEqual(answers([7, 8, 9, 10, 11, 12, 13, 14, 0, 15]),
                         [9, 0, 0, 0, 0, 0, 0, 0, 0, 0, 1, 0, 1, 0, 2, 0, 0, 1, 0, 1, 0, 3, 0, 0, 0, 1, -3,
                          7, 0, 0, 0, 0, 0, 0, 0])

    def test_one_object_asked_for_everything(self):
        self.assertEqual(answers([0, 2, 3, 4, 1, 7, 8, 9, 10, 11, 12, 13, 14, 0, 15]),
                         [4, 0, 0, 0, 0, 9, 0, 0, 0, 1, 0, 0, 0, 0, 0, 7, 0, 0, 3, 4, 1, 1, 0, 2, 0, 0, 2, 0, 0, 1, 0,
                          1, 0, 7, 0, 1, 3, 4, 0, 1, 0, 4, 0, 1, 2, 0, 7, 0, 1, 4, 0, 0, 1, 4])

    def test_any_call_may_be_the_first(self):
        for first in VIEWS + [COLLECT, REGS, run(), clear(0), copy(1, 2), load(0, 0, 0), store(0, 0, 0)]:
            self.assertEqual(ask(first, new(0), *VIEWS)[1:], ask(new(0), *VIEWS), first)

    def test_whole_numbers_in_a_list(self):
        told = answers(joined(LINE + REFUSED))
        self.assertIs(type(told), list)
        self.assertEqual({type(number) for number in told}, {int})

    def test_60_calls(self):
        self.assertEqual(ask(*[new(0, 0, k) for k in range(60)])[1:],
                         [[0, k % 2, 1, k - 1, (k - 1) % 2] for k in range(1, 60)])

    def test_16000_numbers(self):
        longest = [new(0, 0, 1)] * 400
        rest = [new(0, 0, 1)] * 395
        line = [run(*longest)] * 7 + [run(*rest), COLLECT, REGS]
        self.assertLessEqual(len(joined(line)), 16000)
        self.assertEqual(ask(*line)[1:8], [[0, 400, 0, 400, 400]] * 6 + [[0, 395, 0, 395, 395]])


class NothingChanged(unittest.TestCase):
    """What only looks leaves the machine as it was."""

    def test_calls_behind_answer_as_without(self):
        wanted = ask(*LINE)
        for place in range(len(LINE) + 1):
            for looks in [[view] for view in VIEWS + [holders(2), holders(32)]] + [VIEWS]:
                told = ask(*LINE[:place], *looks, *LINE[place:])
                with self.subTest(place=place, looks=looks):
                    self.assertEqual(told[:place] + told[place + len(looks):], wanted)

    def test_a_second_look_answers_as_the_first(self):
        for place in range(len(LINE) + 1):
            told = ask(*LINE[:place], *VIEWS, *VIEWS)[place:]
            self.assertEqual(told[:len(VIEWS)], told[len(VIEWS):], place)


class NothingKept(unittest.TestCase):
    def test_what_is_handed_in_is_as_it_was(self):
        calls = joined(LINE + REFUSED)
        before = list(calls)
        answers(calls)
        self.assertEqual(calls, before)

    def test_a_second_time_answers_as_the_first(self):
        calls = joined(LINE)
        first = answers(calls)
        answers(joined([chain(32), clear(0)]))
        self.assertEqual(answers(calls), first)

    def test_what_is_given_back_is_the_callers(self):
        first = answers(joined(LINE))
        kept = list(first)
        first.clear()
        self.assertEqual(answers(joined(LINE)), kept)

    def test_a_refusal_leaves_the_machine_as_it_was(self):
        wanted = ask(*LINE)
        for place in range(len(LINE) + 1):
            for refused in REFUSED:
                told = ask(*LINE[:place], refused, *LINE[place:])
                with self.subTest(place=place, refused=refused):
                    self.assertEqual(len(told[place]), 1)
                    self.assertLess(told[place][0], 0)
                    self.assertEqual(told[:place] + told[place + 1:], wanted)


if __name__ == "__main__":
    unittest.main()
