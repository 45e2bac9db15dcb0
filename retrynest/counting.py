"""Counting policies that cannot be split."""

from retrynest.errors import InvalidNumber
from retrynest.powers import number_power


def divisors(number):
    """Return all divisors of a positive number in ascending order."""
    return [part for part in range(1, number + 1) if number % part == 0]


def count_lists(numbers, kinds):
    """Return how many unsplittable policies are not constant, by attempts.

    The numbers of attempts are all divisors of one number, in ascending order.
    """
    policies = {count: number_power(kinds, count - 1) for count in numbers}
    # Policies whose normal form does not begin with a tuple with one given wait.
    others = {1: 1}
    lists = {1: 0}
    for number in numbers[1:]:
        parts = [part for part in numbers if part < number and number % part == 0]
        # Each policy is one of these others around a constant layer with the
        # given wait, perhaps with one attempt, in exactly one way.
        others[number] = policies[number] - sum([others[part] for part in parts])
        constant_first = kinds * (policies[number] - others[number])
        # Behind a list the normal form can go on in any way.
        list_first = sum([lists[part] * policies[number // part] for part in parts])
        lists[number] = policies[number] - constant_first - list_first
    return lists


def count_unsplittable(attempts, kinds):
    """Return how many unsplittable policies have so many attempts and kinds of waits."""
    if attempts < 1:
        raise InvalidNumber(attempts)
    if kinds < 1:
        raise InvalidNumber(kinds)
    numbers = divisors(attempts)
    constant = kinds if len(numbers) == 2 else 0
    return count_lists(numbers, kinds)[attempts] + constant
