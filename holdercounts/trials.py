"""What is reached from where, and the trial counts that find the rings which nothing outside holds."""

from holdercounts.records import filled


def add_missing(found, numbers):
    """Put those of the numbers that are not among the found ones behind them, each once."""
    for number in numbers:
        if number not in found:
            found.append(number)


def reached(machine, numbers):
    """All objects reached from these, in the order found."""
    found = []
    add_missing(found, numbers)
    place = 0
    # The list grows while it is gone through: what stood there before needs no second look.
    while place < len(found):
        thing = machine.held[found[place]]
        add_missing(found, filled(thing.slots))
        place += 1
    return found


def slot_holders(machine, numbers):
    """How many slots of these objects hold each object; what no slot of them holds is left out."""
    holders = {}
    for number in numbers:
        thing = machine.held[number]
        for inner in filled(thing.slots):
            holders[inner] = holders.get(inner, 0) + 1
    return holders


def outside_counts(machine, field):
    """Each object of the field, in the field's order, with its outside count."""
    inside = slot_holders(machine, field)
    outside = {}
    for number in field:
        thing = machine.held[number]
        outside[number] = thing.count - inside.get(number, 0)
    return outside


def staying(machine, outside):
    """The objects that stay of a field whose outside counts are these."""
    return reached(machine, [number for number in outside if outside[number] != 0])


def collect(machine):
    """Make a trial and let go what it finds; gives back what went, in order."""
    field = reached(machine, machine.suspects)
    stays = staying(machine, outside_counts(machine, field))
    going = [number for number in field if number not in stays]
    lost = slot_holders(machine, going)
    gone = []
    for number in going:
        gone.append(machine.held.pop(number))
    for number, less in lost.items():
        if number in machine.held:
            thing = machine.held[number]
            thing.count -= less
    machine.suspects = []
    return gone
