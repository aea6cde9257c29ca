"""What a machine is made of: its registers, the objects it holds, and its suspects.

A register or a slot keeps the number of the object that it holds, or None for nothing. A number is enough:
an object's number is given to another one only when no register and no slot holds the first any more.
"""

REGISTERS = 8
MOST_HELD = 32


class Thing:
    """An object of the machine."""

    def __init__(self, number, kind, size, n):
        self.number = number
        self.kind = kind
        self.size = size
        self.slots = [None] * n
        self.count = 0


class Machine:
    """Registers, the held objects by their numbers, the suspects' numbers in their order, and what was made in all."""

    def __init__(self):
        self.registers = [None] * REGISTERS
        self.held = {}
        self.suspects = []
        self.made = 0
        self.made_sizes = 0


def filled(places):
    """The objects that these registers or slots hold, in order, once for each place."""
    return [number for number in places if number is not None]


def sizes_together(things):
    """The sizes of these objects together."""
    return sum([thing.size for thing in things])


def least_free(machine):
    """The least number that no held object has."""
    number = 0
    while number in machine.held:
        number += 1
    return number
