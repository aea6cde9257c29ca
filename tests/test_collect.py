"""Promise 4: collect, which makes a trial and lets go what it finds."""

import unittest

from tests.helper import COLLECT, REGS, ask, chain, clear, copy, last, load, loop, new, run, store


class Found(unittest.TestCase):
    def test_nothing_on_a_new_machine(self):
        self.assertEqual(ask(COLLECT, COLLECT, REGS), [[0, 0, 0], [0, 0, 0], [0] * 9])

    def test_an_object_that_holds_itself(self):
        self.assertEqual(ask(loop(0, 8), clear(0), COLLECT, COLLECT, new(0))[1:],
                         [[0, 0, 0], [0, 1, 8, 0], [0, 0, 0], [0, 0, 0, 0]])

    def test_an_object_that_holds_itself_in_all_its_slots(self):
        self.assertEqual(last(loop(0, 8, 5), *[store(0, i, 0) for i in range(1, 5)], clear(0), COLLECT), [0, 1, 8, 0])

    def test_a_ring_that_a_register_holds_stays(self):
        ring = run(new(0, 0, 1, 1), new(1, 0, 2, 1), store(0, 0, 1), store(1, 0, 0))
        self.assertEqual(ask(ring, clear(1), COLLECT, load(2, 0, 0), REGS)[1:],
                         [[0, 0, 0], [0, 0, 0], [0, 0, 0], [0, 1, 0, 2, 0, 0, 0, 0, 0]])

    def test_a_ring_that_an_object_outside_of_the_field_holds_stays(self):
        line = [loop(0, 1), new(1, 0, 2, 1), store(1, 0, 0), clear(0), COLLECT, load(2, 1, 0), REGS]
        self.assertEqual(ask(*line)[3:], [[0, 0, 0], [0, 0, 0], [0, 0, 0], [0, 0, 2, 1, 0, 0, 0, 0, 0]])

    def test_what_a_staying_object_holds_stays(self):
        line = [run(new(0, 0, 0, 1), new(1, 0, 0, 2), store(0, 0, 1), store(1, 0, 1)), new(2, 0, 9, 1), store(1, 1, 2),
                clear(2), clear(1), COLLECT, load(1, 0, 0), load(1, 1, 1), REGS]
        self.assertEqual(ask(*line)[5:], [[0, 0, 0], [0, 0, 0], [0, 0, 0], [0, 1, 3, 0, 0, 0, 0, 0, 0]])

    def test_of_two_rings_the_one_that_nothing_holds_goes(self):
        self.assertEqual(ask(loop(0, 1), loop(1, 2), copy(2, 0), clear(0), clear(1), COLLECT, clear(2), COLLECT)[5:],
                         [[0, 1, 2, 1], [0, 0, 0], [0, 1, 1, 0]])

    def test_what_a_ring_holds_goes_with_it(self):
        line = [loop(0, 1, 2), new(1, 0, 2), store(0, 1, 1), clear(1), clear(0), COLLECT]
        self.assertEqual(last(*line), [0, 2, 3, 1, 0])


class Order(unittest.TestCase):
    def test_what_is_nearer_to_the_suspects_is_ahead(self):
        line = [loop(0, 1, 3), new(1, 0, 2, 1), new(2, 0, 4), new(3, 0, 8),
                store(1, 0, 2), store(0, 1, 1), store(0, 2, 3), run(clear(1), clear(2), clear(3)), COLLECT,
                clear(0), COLLECT]
        self.assertEqual(last(*line), [0, 4, 15, 0, 1, 3, 2])

    def test_all_suspects_stand_ahead_of_what_they_hold(self):
        line = [loop(0, 0, 2), loop(1), loop(2), store(0, 1, 2), COLLECT, clear(2), clear(1), clear(0), COLLECT]
        self.assertEqual(last(*line), [0, 3, 0, 2, 1, 0])
        line = [loop(0, 0, 2), loop(1), loop(2), store(0, 1, 2), clear(2), COLLECT, clear(0), clear(1), COLLECT]
        self.assertEqual(last(*line), [0, 3, 0, 0, 1, 2])

    def test_the_order_of_the_slots(self):
        line = [loop(0, 0, 3), new(1), new(2), store(0, 1, 2), store(0, 2, 1), clear(1), clear(2), COLLECT,
                clear(0), COLLECT]
        self.assertEqual(last(*line), [0, 3, 0, 0, 2, 1])

    def test_a_ring_of_32(self):
        line = [chain(32), copy(1, 0), run(*[load(1, 1, 0)] * 31), store(1, 0, 0), clear(1), COLLECT, clear(0), COLLECT]
        self.assertEqual(last(*line), [0, 32, 32] + list(range(31, -1, -1)))


class Afterwards(unittest.TestCase):
    def test_slots_of_what_went_count_no_more(self):
        line = [loop(0, 1, 3), new(1, 0, 5), store(0, 1, 1), store(0, 2, 1), clear(0), COLLECT, REGS, clear(1)]
        self.assertEqual(ask(*line)[5:], [[0, 1, 1, 0], [0, 0, 2, 0, 0, 0, 0, 0, 0], [0, 1, 5, 1]])

    def test_there_are_no_suspects(self):
        line = [loop(0), loop(1), copy(2, 0), clear(2), COLLECT, clear(1), clear(0), COLLECT]
        self.assertEqual(last(*line), [0, 2, 0, 1, 0])

    def test_what_the_gone_held_is_no_suspect(self):
        line = [loop(0, 0, 2), loop(1), loop(2), store(0, 1, 1), clear(0), COLLECT, clear(2), clear(1), COLLECT]
        self.assertEqual(last(*line), [0, 2, 0, 2, 1])

    def test_the_numbers_are_free_again(self):
        line = [loop(0), loop(1), loop(2), clear(0), clear(1), COLLECT, new(0), new(1), new(3)]
        self.assertEqual(ask(*line)[5:], [[0, 2, 0, 0, 1], [0, 0, 0, 0], [0, 1, 0, 0], [0, 3, 0, 0]])


if __name__ == "__main__":
    unittest.main()
