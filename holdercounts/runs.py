"""A list of operations, told one behind the other, and what comes of doing them."""

from holdercounts.operations import NOT_REFUSED, OPERATION_ARGUMENTS, perform, refusal
from holdercounts.records import sizes_together

NOT_OPERATIONS = -12


def told_operations(numbers):
    """The operations that the numbers tell, as pairs of number and arguments; None if they tell none."""
    if any([number < 0 for number in numbers]):
        return None
    operations = []
    place = 0
    while place < len(numbers):
        operation = numbers[place]
        if operation not in OPERATION_ARGUMENTS:
            return None
        end = place + 1 + OPERATION_ARGUMENTS[operation]
        if end > len(numbers):
            return None
        operations.append((operation, numbers[place + 1:end]))
        place = end
    return operations


def run(machine, numbers):
    """Do the operations up to the first one that is refused, and answer as the call run does."""
    # The whole list is read first: a list that is not operations must leave the machine as it was.
    operations = told_operations(numbers)
    if operations is None:
        return [NOT_OPERATIONS]
    done = 0
    ended_by = NOT_REFUSED
    gone = []
    for operation, arguments in operations:
        ended_by = refusal(machine, operation, arguments)
        if ended_by != NOT_REFUSED:
            break
        gone.extend(perform(machine, operation, arguments))
        done += 1
    return [0, done, -ended_by, len(gone), sizes_together(gone)]
