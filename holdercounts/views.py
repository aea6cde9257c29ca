"""The calls that only look at a machine: none of them changes it."""

from holdercounts.records import filled, sizes_together
from holdercounts.trials import outside_counts, reached, staying

REGS = 7
OBJECTS = 8
LIVE = 9
WASTE = 10
SUSPECTS = 11
TRIAL = 12
ROW = 13
HOLDERS = 14

# How many arguments stand behind the number of each of these calls; 15 is totals.
VIEW_ARGUMENTS = {7: 0, 8: 0, 9: 0, 10: 0, 11: 0, 12: 0, 13: 0, 14: 1, 15: 0}

NO_SUCH_OBJECT = -3


def one_up(number):
    """How what a register or a slot holds is told: 1 more than the object's number, or 0 for nothing."""
    return 0 if number is None else number + 1


def regs(machine):
    """What each register holds."""
    return [0] + [one_up(number) for number in machine.registers]


def objects(machine):
    """All that there is to tell of each held object, rising."""
    told = [0]
    for number in sorted(machine.held):
        thing = machine.held[number]
        told.extend([number, thing.kind, thing.size, thing.count, len(thing.slots)])
        told.extend([one_up(inner) for inner in thing.slots])
    return told


def live_numbers(machine):
    """The live objects, rising."""
    return sorted(reached(machine, filled(machine.registers)))


def live(machine):
    """The live objects."""
    return [0] + live_numbers(machine)


def waste(machine):
    """The sizes of the waste together, and its objects, rising."""
    alive = live_numbers(machine)
    numbers = [number for number in sorted(machine.held) if number not in alive]
    return [0, sizes_together([machine.held[number] for number in numbers])] + numbers


def suspects(machine):
    """The suspects, in their order."""
    return [0] + machine.suspects


def trial(machine):
    """Each object of the field, in order, with its outside count and whether it stays."""
    outside = outside_counts(machine, reached(machine, machine.suspects))
    stays = staying(machine, outside)
    told = [0]
    for number, outside_count in outside.items():
        told.extend([number, outside_count, 1 if number in stays else 0])
    return told


def numbered_anew(machine):
    """The held objects, rising, each with its number in a graph row."""
    anew = {}
    for place, number in enumerate(sorted(machine.held)):
        anew[number] = place
    return anew


def row_part(thing, anew):
    """What a graph row tells of one object."""
    told = [thing.kind, thing.size, len(filled(thing.slots))]
    for place, inner in enumerate(thing.slots):
        if inner is not None:
            told.extend([place, 0, anew[inner]])
    return told


def row(machine):
    """The graph row of the held objects and of the registers that hold something."""
    anew = numbered_anew(machine)
    told = [0, len(anew)]
    for number in anew:
        told.extend(row_part(machine.held[number], anew))
    in_registers = filled(machine.registers)
    return told + [len(in_registers)] + [anew[number] for number in in_registers]


def places_of(places, o):
    """The numbers of those registers or slots that hold the object."""
    return [place for place, number in enumerate(places) if number == o]


def holders(machine, o):
    """The registers and the slots that hold the object, with how many of each stand there ahead of them."""
    if o not in machine.held:
        return [NO_SUCH_OBJECT]
    in_registers = places_of(machine.registers, o)
    in_slots = []
    for number in sorted(machine.held):
        thing = machine.held[number]
        in_slots.extend([(number, place) for place in places_of(thing.slots, o)])
    told = [0, len(in_registers)] + in_registers + [len(in_slots)]
    for number, place in in_slots:
        told.extend([number, place])
    return told


def totals(machine):
    """How many objects were made, went and are held, each with their sizes together."""
    held = len(machine.held)
    held_sizes = sizes_together(list(machine.held.values()))
    # Whatever was made is held or went, by whichever call: so what went needs no count of its own.
    return [0, machine.made, machine.made_sizes, machine.made - held, machine.made_sizes - held_sizes, held, held_sizes]


def view(machine, call, arguments):
    """The answer of one of these calls."""
    if call == REGS:
        return regs(machine)
    if call == OBJECTS:
        return objects(machine)
    if call == LIVE:
        return live(machine)
    if call == WASTE:
        return waste(machine)
    if call == SUSPECTS:
        return suspects(machine)
    if call == TRIAL:
        return trial(machine)
    if call == ROW:
        return row(machine)
    if call == HOLDERS:
        return holders(machine, arguments[0])
    return totals(machine)
