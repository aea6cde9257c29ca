"""Many made-up lines, answered by the program and by a second telling of the words.

The second telling keeps no counts: it looks for all holders each time, and walks by calls within one another.
"""

import random
import unittest

from holdercounts.counting import one_less, put
from holdercounts.machines import answers
from holdercounts.operations import perform, refusal
from holdercounts.records import Machine
from holdercounts.trials import reached
from tests.helper import VIEWS, holders, joined, run_numbers, taken_apart

ARGUMENTS = [4, 2, 3, 3, 1, 0]


class Item:
    def __init__(self, number, kind, size, n):
        self.number = number
        self.kind = kind
        self.size = size
        self.slots = [None] * n


class Refusal(Exception):
    pass


class Model:
    def __init__(self):
        self.regs = [None] * 8
        self.items = []
        self.suspects = []
        self.made = []
        self.gone = []

    def holders(self, item, among):
        return sum(slot is item for other in among for slot in other.slots)

    def count(self, item):
        return sum(held is item for held in self.regs) + self.holders(item, self.items)

    def more(self, item):
        if item in self.suspects:
            self.suspects.remove(item)

    def less(self, item, left, gone):
        """The holder is taken away already; left tells how many of the item's other holders are still to be so."""
        if item is None or item not in self.items:
            return
        if self.count(item) + left.count(item) == 0:
            self.items.remove(item)
            self.more(item)
            gone.append(item)
            self.gone.append(item)
            # What is gone holds nothing for count(), so those slots that are still to come are told in left.
            for place, slot in enumerate(item.slots):
                self.less(slot, item.slots[place + 1:] + left, gone)
        elif item not in self.suspects:
            self.suspects.append(item)

    def set(self, places, place, item):
        gone = []
        before = places[place]
        if item is not None:
            self.more(item)
        places[place] = item
        self.less(before, [], gone)
        return gone

    def reached(self, items):
        found = []
        for item in items:
            if item not in found:
                found.append(item)
        while True:
            row = list(found)
            for item in row:
                for slot in item.slots:
                    if slot is not None and slot not in found:
                        found.append(slot)
            if found == row:
                return found

    def trial(self):
        """For each of the field: the item, its outside count, whether it stays (asked of each one by itself)."""
        field = self.reached(self.suspects)
        outside = [self.count(item) - self.holders(item, field) for item in field]
        roots = [item for item, count in zip(field, outside) if count]
        return [(item, count, any(item in self.reached([root]) for root in roots))
                for item, count in zip(field, outside)]

    def collect(self):
        gone = [item for item, _, stays in self.trial() if not stays]
        self.items = [item for item in self.items if item not in gone]
        self.suspects = []
        self.gone += gone
        return gone

    def need(self, true, number):
        if not true:
            raise Refusal(number)

    def places(self, s, i):
        self.need(self.regs[s] is not None, -4)
        self.need(i in range(len(self.regs[s].slots)), -10)
        return self.regs[s].slots

    def do(self, code, args):
        """The numbers ahead of what went, and what went."""
        told = dict(zip(["r kind size n", "r s", "r s i", "s i r", "r", ""][code].split(), args))
        for name in "rs":
            self.need(told.get(name, 0) in range(8), -3)
        if code == 0:
            self.need(told["kind"] in range(100) and told["size"] in range(1000001) and told["n"] in range(6), -7)
            self.need(len(self.items) < 32, -9)
            number = min(set(range(32)) - {item.number for item in self.items})
            item = Item(number, told["kind"], told["size"], told["n"])
            self.items.append(item)
            self.made.append(item)
            return [number], self.set(self.regs, told["r"], item)
        if code == 1:
            return [], self.set(self.regs, told["r"], self.regs[told["s"]])
        if code == 2:
            return [], self.set(self.regs, told["r"], self.places(told["s"], told["i"])[told["i"]])
        if code == 3:
            return [], self.set(self.places(told["s"], told["i"]), told["i"], self.regs[told["r"]])
        if code == 4:
            return [], self.set(self.regs, told["r"], None)
        return [], self.collect()

    def run(self, numbers):
        rest = list(numbers)
        operations = []
        while rest:
            code = rest.pop(0)
            if code not in range(6) or len(rest) < ARGUMENTS[code]:
                return [-12]
            operations.append((code, rest[:ARGUMENTS[code]]))
            rest = rest[ARGUMENTS[code]:]
        if any(number < 0 for number in numbers):
            return [-12]
        done, ended, gone = 0, 0, []
        for code, args in operations:
            try:
                gone += self.do(code, args)[1]
            except Refusal as e:
                ended = -e.args[0]
                break
            done += 1
        return [0, done, ended, len(gone), sum(item.size for item in gone)]

    def up(self, places):
        return [0 if item is None else item.number + 1 for item in places]

    def row(self, rising):
        parts = []
        for item in rising:
            slots = [[i, 0, rising.index(slot)] for i, slot in enumerate(item.slots) if slot]
            parts += [item.kind, item.size, len(slots)] + joined(slots)
        registers = [rising.index(item) for item in self.regs if item]
        return [len(rising)] + parts + [len(registers)] + registers

    def held_by(self, o, rising):
        registers = [r for r, item in enumerate(self.regs) if item and item.number == o]
        slots = [[item.number, i] for item in rising for i, slot in enumerate(item.slots) if slot and slot.number == o]
        return [len(registers)] + registers + [len(slots)] + joined(slots)

    def look(self, call):
        rising = sorted(self.items, key=lambda item: item.number)
        live = self.reached([item for item in self.regs if item])
        waste = [item for item in rising if item not in live]
        if call[0] == 14:
            return [0] + self.held_by(call[1], rising) if call[1] in [item.number for item in rising] else [-3]
        return [0] + {
            7: lambda: self.up(self.regs),
            8: lambda: joined([[item.number, item.kind, item.size, self.count(item), len(item.slots)]
                               + self.up(item.slots) for item in rising]),
            9: lambda: [item.number for item in rising if item in live],
            10: lambda: [sum(item.size for item in waste)] + [item.number for item in waste],
            11: lambda: [item.number for item in self.suspects],
            12: lambda: joined([[item.number, count, int(stays)] for item, count, stays in self.trial()]),
            13: lambda: self.row(rising),
            15: lambda: joined([[len(items), sum(item.size for item in items)]
                                for items in (self.made, self.gone, self.items)]),
        }[call[0]]()

    def answer(self, call):
        if call[0] > 6:
            return self.look(call)
        if call[0] == 6:
            return self.run(call[2:])
        try:
            ahead, gone = self.do(call[0], call[1:])
        except Refusal as e:
            return [e.args[0]]
        return [0] + ahead + [len(gone), sum(item.size for item in gone)] + [item.number for item in gone]


class Maker:
    """Made-up calls; careful ones name few registers and slots, so that much is held; others are often refused."""

    def __init__(self, seed):
        self.random = random.Random(seed)
        self.registers = self.random.choice([2, 3, 5, 8])
        self.slots = self.random.choice([1, 2, 3, 5])
        self.weights = [self.random.choice([2, 5, 9]) for _ in range(5)] + [self.random.choice([0, 1, 3])]
        if self.random.random() < 0.2:
            # Much is made and stored and nothing cleared: such a machine grows full.
            self.weights = [9, 1, 1, 30, 0, 0]
        self.wrong = self.random.choice([0, 0, 0.01, 0.1])

    def below(self, top):
        if self.random.random() < self.wrong:
            return self.random.choice([-10 ** 18, -1, top, 10 ** 18, 8, 5])
        return self.random.randrange(top)

    def operation(self):
        code = self.random.choices(range(6), self.weights)[0]
        r, s, i = self.below(self.registers), self.below(self.registers), self.below(self.slots)
        if code == 0:
            n = self.slots if self.random.random() < 0.9 else self.below(6)
            return [0, r, self.below(100), self.below(1000001), n]
        return [[code, r, s], [code, r, s, i], [code, s, i, r], [code, r], [code]][code - 1]

    def line(self):
        """60 calls; what is made first keeps runs from ending soon, and what is cleared last leaves much to collect."""
        made = run_numbers(joined([[0, r, 1, 1, self.slots] for r in range(self.registers)]))
        cleared = [[4, r] for r in self.random.sample(range(self.registers), self.registers)]
        ahead = [made] + [self.call() for _ in range(58 - self.registers - 2 * len(VIEWS))]
        return ahead + VIEWS + cleared + VIEWS + [[5]]

    def call(self):
        chance = self.random.random()
        if chance < 0.1:
            return self.random.choice(VIEWS)
        if chance < 0.15:
            return holders(self.below(32))
        if chance < 0.4:
            numbers = joined([self.operation() for _ in range(self.random.randrange(30))])
            if self.random.random() < self.wrong:
                numbers = numbers[:-1]
            return run_numbers(numbers)
        return self.operation()


class AgainstTheModel(unittest.TestCase):
    def test_made_up_lines(self):
        seen = {"refused": set(), "gone": 0, "collected": 0, "full": 0, "suspects": 0, "some stay": 0, "waste": 0}
        for seed in range(1500):
            maker = Maker(seed)
            line = maker.line()
            model = Model()
            told = taken_apart(answers(joined(line)))
            for place, call in enumerate(line):
                wanted = model.answer(call)
                self.assertEqual(told[place], wanted, (seed, place, call))
                if wanted[0] < 0:
                    seen["refused"].add(wanted[0])
                if call[0] < 5 and wanted[0] == 0:
                    seen["gone"] += len(wanted) > 5
                if call[0] == 5:
                    seen["collected"] += wanted[1] > 1
                seen["full"] += len(model.items) == 32
                seen["suspects"] += call[0] == 11 and len(wanted) > 5
                seen["some stay"] += call[0] == 12 and {0, 1} <= set(wanted[3::3])
                seen["waste"] += call[0] == 10 and len(wanted) > 5
        self.assertEqual(seen["refused"], {-3, -4, -7, -9, -10, -12})
        self.assertGreater(min(seen[what] for what in seen if what != "refused"), 20, seen)


class WithinTheMachine(unittest.TestCase):
    """What follows from the words for the machine itself."""

    def check_counts(self, machine):
        places = machine.registers + joined([thing.slots for thing in machine.held.values()])
        for number, thing in machine.held.items():
            self.assertEqual((thing.number, thing.count), (number, places.count(number)))
        self.assertLessEqual({held for held in places if held is not None}, set(machine.held))
        self.assertLessEqual(set(machine.suspects), set(machine.held))
        self.assertEqual(len(set(machine.suspects)), len(machine.suspects))

    def check_no_waste(self, machine):
        live = reached(machine, [number for number in machine.registers if number is not None])
        self.assertEqual(sorted(live), sorted(machine.held))
        self.assertEqual(machine.suspects, [])

    def test_counts_are_the_holders_and_collecting_leaves_no_waste(self):
        for seed in range(300):
            maker = Maker(seed)
            machine = Machine()
            for _ in range(150):
                operation = maker.operation()
                if refusal(machine, operation[0], operation[1:]) == 0:
                    perform(machine, operation[0], operation[1:])
                    self.check_counts(machine)
                    if operation[0] == 5:
                        self.check_no_waste(machine)

    def test_a_place_that_held_nothing_lets_nothing_go(self):
        machine = Machine()
        self.assertEqual(put(machine, machine.registers, 0, None), [])
        self.check_no_waste(machine)

    def test_of_an_object_that_is_not_held_any_more_nothing_happens(self):
        # No line of calls is known that comes there, so it is asked of the machine itself.
        machine = Machine()
        perform(machine, 0, [0, 1, 2, 3])
        self.assertEqual([thing.number for thing in one_less(machine, [0, 0, 1])], [0])
        self.assertEqual((machine.held, machine.suspects), ({}, []))


if __name__ == "__main__":
    unittest.main()
