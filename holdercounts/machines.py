"""The calls on one machine, told as one list of whole numbers, and their answers as another."""

from holdercounts.operations import NEW, NOT_REFUSED, OPERATION_ARGUMENTS, perform, refusal
from holdercounts.records import Machine, sizes_together
from holdercounts.runs import run
from holdercounts.views import VIEW_ARGUMENTS, view

# The calls ahead of this one bear the numbers of their operations; those behind it only look.
RUN = 6


def went(gone):
    """What went: how many, their sizes together, and their numbers."""
    return [len(gone), sizes_together(gone)] + [thing.number for thing in gone]


def operation_answer(machine, operation, arguments):
    """Do one operation, and answer as its call does."""
    refused = refusal(machine, operation, arguments)
    if refused != NOT_REFUSED:
        return [refused]
    gone = perform(machine, operation, arguments)
    if operation == NEW:
        return [0, machine.registers[arguments[0]]] + went(gone)
    return [0] + went(gone)


def call_end(calls, place):
    """Where the call that begins at this place ends."""
    call = calls[place]
    if call == RUN:
        return place + 2 + calls[place + 1]
    if call in OPERATION_ARGUMENTS:
        return place + 1 + OPERATION_ARGUMENTS[call]
    return place + 1 + VIEW_ARGUMENTS[call]


def answer(machine, call, arguments):
    """The answer of one call; the arguments of run have their number ahead of them."""
    if call == RUN:
        return run(machine, arguments[1:])
    if call in OPERATION_ARGUMENTS:
        return operation_answer(machine, call, arguments)
    return view(machine, call, arguments)


def answers(calls):
    """The answers of the calls on a new machine, each with how many numbers it has ahead of it."""
    machine = Machine()
    told = []
    place = 0
    while place < len(calls):
        end = call_end(calls, place)
        numbers = answer(machine, calls[place], calls[place + 1:end])
        told.append(len(numbers))
        told.extend(numbers)
        place = end
    return told
