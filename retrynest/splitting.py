"""The ways to split a policy into an inner and an outer policy."""

from retrynest.checks import check_waits
from retrynest.errors import InvalidNumber


def repeats(waits, number):
    """Return True if all blocks of `number` attempts have the same waits.

    `number` divides the number of attempts. Every `number`-th wait stands
    between two blocks, so it is not compared.
    """
    block = waits[:number - 1]
    for start in range(number, len(waits) + 1, number):
        if waits[start:start + number - 1] != block:
            return False
    return True


def is_inner_number(waits, number):
    """Return True if the policy has this inner number, otherwise False."""
    if number < 1 or (len(waits) + 1) % number != 0:
        return False
    return repeats(waits, number)


def inner_numbers(waits):
    """Return all inner numbers of a policy in ascending order."""
    check_waits(waits)
    return [number for number in range(1, len(waits) + 2) if is_inner_number(waits, number)]


def split(waits, number):
    """Return the inner policy with `number` attempts, and the outer one."""
    check_waits(waits)
    if not is_inner_number(waits, number):
        raise InvalidNumber(number)
    return (waits[:number - 1], waits[number - 1::number])
