"""Counting the holders: one more, one less, and what goes when a count would fall to 0."""

from holdercounts.records import filled


def drop_suspect(machine, number):
    """Make the object no suspect any more, if it is one."""
    if number in machine.suspects:
        machine.suspects.remove(number)


def add_suspect(machine, number):
    """Make the object a suspect behind the others; one that is a suspect already keeps its place."""
    if number not in machine.suspects:
        machine.suspects.append(number)


def one_more(machine, numbers):
    """One holder more of each of these objects."""
    for number in numbers:
        thing = machine.held[number]
        thing.count += 1
        drop_suspect(machine, number)


def one_less(machine, numbers):
    """One holder less of these objects, one after the other; gives back those that went, in order."""
    gone = []
    waiting = list(numbers)
    while waiting:
        number = waiting.pop(0)
        thing = machine.held.get(number)
        if thing is None:
            continue
        if thing.count == 1:
            machine.held.pop(number)
            drop_suspect(machine, number)
            gone.append(thing)
            waiting = filled(thing.slots) + waiting
        else:
            thing.count -= 1
            add_suspect(machine, number)
    return gone


def put(machine, places, place, number):
    """Let one of the registers or of an object's slots hold the object (or None); gives back what went.

    The new holder counts before the old one is taken away: what the place held already must not go in between.
    """
    one_more(machine, filled([number]))
    before = places[place]
    places[place] = number
    return one_less(machine, filled([before]))
