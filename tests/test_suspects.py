"""Promise 6: suspects and trial."""

import unittest

from tests.helper import COLLECT, SUSPECTS, TRIAL, ask, chain, clear, copy, last, load, loop, new, run, store


class Suspects(unittest.TestCase):
    def test_a_new_machine(self):
        self.assertEqual(last(SUSPECTS), [0])

    def test_a_count_that_only_rose(self):
        self.assertEqual(last(loop(0), copy(1, 0), load(2, 0, 0), SUSPECTS), [0])

    def test_a_count_that_fell_by_clear_copy_load_store_and_new(self):
        for less in (clear(0), copy(0, 7), copy(0, 2), load(0, 2, 0), new(0)):
            self.assertEqual(last(new(0), new(2, 0, 0, 1), copy(1, 0), less, SUSPECTS), [0, 0], less)
        self.assertEqual(last(new(0, 0, 0, 1), new(1), store(0, 0, 1), store(0, 0, 7), SUSPECTS), [0, 1])

    def test_what_went_is_none(self):
        self.assertEqual(ask(new(0), copy(1, 0), clear(0), SUSPECTS, clear(1), SUSPECTS)[3::2], [[0, 0], [0]])

    def test_the_number_of_one_that_went_is_given_anew_without_suspicion(self):
        line = [new(0), copy(1, 0), clear(0), clear(1), new(0), SUSPECTS]
        self.assertEqual(last(*line), [0])

    def test_in_the_order_in_which_they_came(self):
        self.assertEqual(last(loop(0), loop(1), loop(2), clear(2), clear(0), clear(1), SUSPECTS), [0, 2, 0, 1])

    def test_one_that_is_one_already_keeps_its_place(self):
        line = [loop(0), copy(1, 0), loop(2), clear(0), clear(2), SUSPECTS, clear(1), SUSPECTS]
        self.assertEqual(ask(*line)[5::2], [[0, 0, 1], [0, 0, 1]])

    def test_one_holder_more_ends_it_and_the_next_less_puts_it_behind(self):
        line = [loop(0), copy(1, 0), loop(2), copy(3, 2), clear(0), clear(2), SUSPECTS, copy(0, 1), SUSPECTS,
                clear(0), SUSPECTS]
        self.assertEqual(ask(*line)[6::2], [[0, 0, 1], [0, 1], [0, 1, 0]])

    def test_a_slot_more_ends_it_too(self):
        line = [new(0), copy(1, 0), clear(0), new(2, 0, 0, 1), SUSPECTS, store(2, 0, 1), SUSPECTS]
        self.assertEqual(ask(*line)[4::2], [[0, 0], [0]])

    def test_a_load_ends_it_too(self):
        line = [new(0), new(2, 0, 0, 1), store(2, 0, 0), clear(0), SUSPECTS, load(5, 2, 0), SUSPECTS]
        self.assertEqual(ask(*line)[4::2], [[0, 0], [0]])

    def test_a_register_onto_itself_is_one_more_and_one_less(self):
        line = [new(0), copy(1, 0), clear(1), new(2), copy(3, 2), clear(3), SUSPECTS, copy(0, 0), SUSPECTS]
        self.assertEqual(ask(*line)[6::2], [[0, 0, 1], [0, 1, 0]])

    def test_slots_of_what_goes_make_suspects_in_their_order(self):
        line = [new(0, 0, 0, 3), new(1), new(2), store(0, 0, 2), store(0, 2, 1), SUSPECTS, clear(0), SUSPECTS]
        self.assertEqual(ask(*line)[5::2], [[0], [0, 2, 1]])

    def test_what_two_slots_held_is_no_suspect_when_it_went_with_the_second(self):
        line = [new(0, 0, 0, 2), new(1), store(0, 0, 1), store(0, 1, 1), clear(1), SUSPECTS, clear(0), SUSPECTS]
        self.assertEqual(ask(*line)[5:], [[0, 1], [0, 2, 0, 0, 1], [0]])

    def test_collect_leaves_none(self):
        line = [loop(0), loop(1), copy(2, 1), clear(0), clear(1), SUSPECTS, COLLECT, SUSPECTS]
        self.assertEqual(ask(*line)[5::2], [[0, 0, 1], [0]])

    def test_what_the_collected_held_is_none(self):
        self.assertEqual(last(loop(0, 0, 2), new(1), store(0, 1, 1), clear(0), COLLECT, SUSPECTS), [0])

    def test_32_of_them(self):
        # Object k of the chain is held by the next one's slot, and the run loads and drops it once.
        line = [chain(32), COLLECT, run(copy(1, 0), *[load(1, 1, 0)] * 31, clear(1)), SUSPECTS]
        self.assertEqual(last(*line), [0] + list(range(31, -1, -1)))


class Trial(unittest.TestCase):
    def test_a_new_machine(self):
        self.assertEqual(last(TRIAL), [0])

    def test_without_a_suspect_there_is_no_field(self):
        self.assertEqual(last(loop(0), TRIAL), [0])

    def test_an_object_that_holds_itself_goes(self):
        self.assertEqual(last(loop(0), clear(0), TRIAL), [0, 0, 0, 0])

    def test_an_object_that_a_register_holds_stays(self):
        self.assertEqual(last(new(0), copy(1, 0), copy(2, 0), clear(2), TRIAL), [0, 0, 2, 1])

    def test_each_of_its_own_slots_counts(self):
        line = [loop(0, 0, 3), store(0, 1, 0), store(0, 2, 0), copy(1, 0), clear(0), TRIAL, clear(1), TRIAL]
        self.assertEqual(ask(*line)[5::2], [[0, 0, 1, 1], [0, 0, 0, 0]])

    def test_several_slots_of_one_object_count_each(self):
        line = [loop(0, 0, 3), new(1), store(0, 1, 1), store(0, 2, 1), clear(1), clear(0), TRIAL]
        self.assertEqual(last(*line), [0, 1, 0, 0, 0, 0, 0])

    def test_slots_outside_of_the_field_do_not_count(self):
        self.assertEqual(last(new(0, 0, 0, 2), new(1), store(0, 0, 1), store(0, 1, 1), clear(1), TRIAL), [0, 1, 2, 1])

    def test_some_stay_and_some_go(self):
        # 0 holds itself and 2; 1 holds itself, and a register holds it; 2 is held by 0 alone.
        line = [loop(0, 1, 2), loop(1, 2), new(2, 0, 4), store(0, 1, 2), copy(3, 1),
                clear(0), clear(1), clear(2), TRIAL, COLLECT]
        self.assertEqual(ask(*line)[8:], [[0, 0, 0, 0, 1, 1, 1, 2, 0, 0], [0, 2, 5, 0, 2]])

    def test_what_is_reached_from_one_that_stays_stays(self):
        # 0 is held by register 3 and holds 1, which holds itself and 2.
        line = [new(0, 0, 0, 1), copy(3, 0), loop(1, 0, 2), new(2), store(0, 0, 1), store(1, 1, 2),
                clear(2), clear(1), clear(0), TRIAL]
        self.assertEqual(last(*line), [0, 2, 0, 1, 1, 0, 1, 0, 1, 1])

    def test_what_goes_may_hold_what_stays(self):
        line = [loop(0, 0, 2), new(1), store(0, 1, 1), clear(0), TRIAL]
        self.assertEqual(last(*line), [0, 0, 0, 0, 1, 1, 1])

    def test_the_order_in_which_the_field_is_found(self):
        # 0 holds itself, 1 and 3; 1 holds 2: what 0 holds stands ahead of what 1 holds.
        line = [loop(0, 0, 3), new(1, 0, 0, 1), new(2), new(3), store(1, 0, 2), store(0, 1, 1), store(0, 2, 3),
                run(clear(1), clear(2), clear(3)), COLLECT, clear(0), TRIAL]
        self.assertEqual(last(*line), [0, 0, 0, 0, 1, 0, 0, 3, 0, 0, 2, 0, 0])

    def test_all_suspects_stand_ahead_in_their_order(self):
        line = [loop(0, 0, 2), loop(1), loop(2), store(0, 1, 2), COLLECT, clear(0), clear(1), TRIAL]
        self.assertEqual(last(*line), [0, 0, 0, 0, 1, 0, 0, 2, 1, 1])

    def test_it_changes_nothing(self):
        line = [loop(0, 5), loop(1, 6), copy(2, 1), clear(0), clear(1), TRIAL, TRIAL, SUSPECTS, COLLECT, TRIAL]
        self.assertEqual(ask(*line)[5:], [[0, 0, 0, 0, 1, 1, 1]] * 2 + [[0, 0, 1], [0, 1, 5, 0], [0]])

    def test_a_field_of_32(self):
        line = [chain(32), COLLECT, copy(1, 0), run(*[load(1, 1, 0)] * 31), store(1, 0, 0), clear(1), COLLECT, clear(0)]
        wanted = [0]
        for number in range(31, -1, -1):
            wanted += [number, 0, 0]
        self.assertEqual(last(*line, TRIAL), wanted)


if __name__ == "__main__":
    unittest.main()
