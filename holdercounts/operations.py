"""The six operations on a machine: when each is refused, and what it does."""

from holdercounts.counting import put
from holdercounts.records import MOST_HELD, REGISTERS, Thing, least_free
from holdercounts.trials import collect

NEW = 0
COPY = 1
LOAD = 2
STORE = 3
CLEAR = 4

# How many arguments stand behind each operation's number.
OPERATION_ARGUMENTS = {0: 4, 1: 2, 2: 3, 3: 3, 4: 1, 5: 0}

NOT_REFUSED = 0
NO_SUCH_REGISTER = -3
HOLDS_NOTHING = -4
OUT_OF_RANGE = -7
FULL = -9
NO_SUCH_SLOT = -10

MOST_KIND = 99
MOST_SIZE = 1000000
MOST_SLOTS = 5


def within(number, most):
    """Whether the number is from 0 to the most."""
    return 0 <= number <= most


def is_register_number(number):
    """Whether a register has this number."""
    return within(number, REGISTERS - 1)


def new_refusal(machine, r, kind, size, n):
    """The refusal that is due to new, or NOT_REFUSED."""
    if not is_register_number(r):
        return NO_SUCH_REGISTER
    if not (within(kind, MOST_KIND) and within(size, MOST_SIZE) and within(n, MOST_SLOTS)):
        return OUT_OF_RANGE
    if len(machine.held) == MOST_HELD:
        return FULL
    return NOT_REFUSED


def registers_refusal(numbers):
    """The refusal that is due to copy or clear with these registers, or NOT_REFUSED."""
    for number in numbers:
        if not is_register_number(number):
            return NO_SUCH_REGISTER
    return NOT_REFUSED


def slot_refusal(machine, s, i, r):
    """The refusal that is due to load or store between register r and slot i of register s, or NOT_REFUSED."""
    if not (is_register_number(s) and is_register_number(r)):
        return NO_SUCH_REGISTER
    if machine.registers[s] is None:
        return HOLDS_NOTHING
    if not within(i, len(slots_of(machine, s)) - 1):
        return NO_SUCH_SLOT
    return NOT_REFUSED


def slots_of(machine, s):
    """The slots of the object in register s."""
    thing = machine.held[machine.registers[s]]
    return thing.slots


def refusal(machine, operation, arguments):
    """The refusal that is due to this operation, or NOT_REFUSED."""
    if operation == NEW:
        return new_refusal(machine, arguments[0], arguments[1], arguments[2], arguments[3])
    if operation == LOAD:
        return slot_refusal(machine, arguments[1], arguments[2], arguments[0])
    if operation == STORE:
        return slot_refusal(machine, arguments[0], arguments[1], arguments[2])
    # All that copy and clear are told are registers, and collect is told nothing.
    return registers_refusal(arguments)


def do_new(machine, r, kind, size, n):
    """Make an object and give it to register r; gives back what went."""
    number = least_free(machine)
    machine.held[number] = Thing(number, kind, size, n)
    machine.made += 1
    machine.made_sizes += size
    return put(machine, machine.registers, r, number)


def perform(machine, operation, arguments):
    """Do an operation that is not refused; gives back what went, in order."""
    registers = machine.registers
    if operation == NEW:
        return do_new(machine, arguments[0], arguments[1], arguments[2], arguments[3])
    if operation == COPY:
        return put(machine, registers, arguments[0], registers[arguments[1]])
    if operation == LOAD:
        return put(machine, registers, arguments[0], slots_of(machine, arguments[1])[arguments[2]])
    if operation == STORE:
        return put(machine, slots_of(machine, arguments[0]), arguments[1], registers[arguments[2]])
    if operation == CLEAR:
        return put(machine, registers, arguments[0], None)
    return collect(machine)
