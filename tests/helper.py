"""Calls told as lists of numbers, and answers taken apart again."""

from holdercounts.machines import answers

COLLECT = [5]
REGS = [7]
OBJECTS = [8]
LIVE = [9]
WASTE = [10]
SUSPECTS = [11]
TRIAL = [12]
ROW = [13]
TOTALS = [15]

LARGEST = 10 ** 18
SMALLEST = -(10 ** 18)


def new(r, kind=0, size=0, n=0):
    return [0, r, kind, size, n]


def copy(r, s):
    return [1, r, s]


def load(r, s, i):
    return [2, r, s, i]


def store(s, i, r):
    return [3, s, i, r]


def clear(r):
    return [4, r]


def holders(o):
    return [14, o]


# All that can be asked of a machine with few objects.
VIEWS = [REGS, OBJECTS, LIVE, WASTE, SUSPECTS, TRIAL, ROW, holders(0), holders(1), TOTALS]


def joined(lists):
    return [number for numbers in lists for number in numbers]


def run(*operations):
    """The call run; its operations bear the numbers of the calls."""
    return run_numbers(joined(operations))


def run_numbers(numbers):
    return [6, len(numbers)] + numbers


def taken_apart(told):
    """The list of answers as one list for each call."""
    apart = []
    place = 0
    while place < len(told):
        end = place + 1 + told[place]
        assert end <= len(told), told
        apart.append(told[place + 1:end])
        place = end
    return apart


def ask(*calls):
    """The answers of these calls on one new machine, one list for each call."""
    apart = taken_apart(answers(joined(calls)))
    assert len(apart) == len(calls), apart
    return apart


def last(*calls):
    """The answer of the last of these calls on one new machine."""
    return ask(*calls)[-1]


def chain(length):
    """A run that makes objects 0, 1, ..: each in its slot 0 holds the one made before; register 0 holds the last."""
    operations = []
    for _ in range(length):
        operations += [new(1, 1, 1, 1), store(1, 0, 0), copy(0, 1), clear(1)]
    return run(*operations)


def loop(r, size=0, n=1):
    """A run that makes an object that register r holds and that holds itself in its slot 0."""
    return run(new(r, 1, size, n), store(r, 0, r))
