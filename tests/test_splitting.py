"""Points [2], [4], [8]: inner_numbers and split."""

import copy
import inspect
import itertools
import math
import unittest

from helpers import HIGH, Raising
from retrynest.errors import InvalidNumber, InvalidWait, RetryError
from retrynest.policies import flatten, nest
from retrynest.splitting import inner_numbers, split

POLICIES = [
    [],
    [0],
    [HIGH],
    [1, 2],
    [3, 3],
    [1, 2, 1],
    [1, 2, 1, 2, 1],
    [1, 1, 1, 1, 1],
    [1, 1, 2, 1, 1],
    [1, 2, 1, 1, 2],
    [0] * 11,
    [5] * 12,
    [5] * 59,
    [5] * 199,
    [5] * 30 + [6] + [5] * 28,
    [5] * 29 + [6] + [5] * 29,
    [6] + [5] * 58,
    [5] * 58 + [6],
    [1, 2, 3] * 16 + [1, 2],
    [1, 2, 3, 4] * 14 + [1, 2, 3],
    [1, 2] * 29 + [1],
    [0, HIGH] * 11 + [0],
    list(range(59)),
    flatten([(1, 2), [2, 3], (1, 4)]),
    flatten([[1, 2], (5, 4), [1, 2]]),
    flatten([(7, 3), [7, 8], (7, 4)]),
    flatten([[4], [4, 5], [4], (4, 3)]),
    flatten([(1, 5), (2, 5), (1, 8)]),
    flatten([[1], [2], [1], [2], [1]]),
]


def equal_waits(waits, number):
    """The condition of point [8], for each two waits."""
    count = len(waits) + 1
    free = [at for at in range(1, count) if at % number != 0]
    for first, second in itertools.combinations(free, 2):
        if first % number == second % number and waits[first - 1] != waits[second - 1]:
            return False
    return True


def by_definition(waits):
    count = len(waits) + 1
    return [number for number in range(1, count + 1) if count % number == 0 and equal_waits(waits, number)]


def small_policies():
    for length in range(8):
        yield from map(list, itertools.product([0, 1], repeat=length))
    for length in range(6):
        yield from map(list, itertools.product([0, 1, 2], repeat=length))
    yield from map(list, itertools.product([3, 4], repeat=11))


class Interface(unittest.TestCase):
    def test_parameters(self):
        self.assertEqual(list(inspect.signature(inner_numbers).parameters), ["waits"])
        self.assertEqual(list(inspect.signature(split).parameters), ["waits", "number"])

    def test_functions_are_defined_in_the_file(self):
        for function in [inner_numbers, split]:
            self.assertEqual(function.__module__, "retrynest.splitting")

    def test_examples(self):
        self.assertEqual(
            [inner_numbers([1, 2, 1, 2, 1]), inner_numbers([1, 1, 1, 1, 1]), inner_numbers([])],
            [[1, 2, 6], [1, 2, 3, 6], [1]],
        )
        self.assertEqual(split([1, 2, 1, 2, 1], 2), ([1], [2, 2]))


class InnerNumbers(Raising):
    def test_written_out_cases(self):
        cases = [
            ([], [1]),
            ([4], [1, 2]),
            ([1, 2], [1, 3]),
            ([1, 2, 1], [1, 2, 4]),
            ([1, 2, 2], [1, 4]),
            ([1, 2, 3, 1, 2], [1, 3, 6]),
            ([1, 2, 3, 1, 4], [1, 6]),
            ([1, 1, 2, 1, 1], [1, 3, 6]),
            ([1, 1, 1, 2, 1, 1, 1], [1, 2, 4, 8]),
            ([1, 2, 1, 1, 1, 2, 1], [1, 2, 4, 8]),
            ([7] * 11, [1, 2, 3, 4, 6, 12]),
            ([7] * 10, [1, 11]),
            ([7, 7, 7, 8, 7, 7, 7, 7, 7, 7, 7], [1, 2, 4, 12]),
        ]
        for waits, expected in cases:
            self.assertEqual(inner_numbers(waits), expected)

    def test_constant_policies_have_every_divisor(self):
        for count in [1, 2, 13, 60, 128, 180, 200, 201]:
            expected = [number for number in range(1, count + 1) if count % number == 0]
            self.assertEqual(inner_numbers([9] * (count - 1)), expected)

    def test_almost_constant_policies(self):
        for count in [12, 30, 64]:
            for place in range(count - 1):
                waits = [9] * (count - 1)
                waits[place] = 4
                self.assertEqual(inner_numbers(waits), by_definition(waits))

    def test_larger_policies(self):
        for waits in POLICIES:
            self.assertEqual(inner_numbers(waits), by_definition(waits))

    def test_small_policies(self):
        for waits in small_policies():
            self.assertEqual(inner_numbers(waits), by_definition(waits))

    def test_inner_part_of_each_nesting(self):
        for inner in [[], [1], [1, 2], [5] * 6, [1, 2, 3, 4]]:
            for outer in [[], [1], [2, 1], [5] * 3, list(range(20))]:
                self.assertIn(len(inner) + 1, inner_numbers(nest(inner, outer)))

    def test_common_divisors_and_multiples(self):
        for waits in POLICIES:
            found = inner_numbers(waits)
            for first, second in itertools.combinations(found, 2):
                self.assertIn(math.gcd(first, second), found)
                self.assertIn(math.lcm(first, second), found)

    def test_flattened_lists(self):
        waits = flatten([(1, 10000)])
        expected = [number for number in range(1, 10001) if 10000 % number == 0]
        self.assertEqual(inner_numbers(waits), expected)
        self.assertEqual(inner_numbers(flatten([[1, 2], (3, 2500)])), [1] + [
            3 * number for number in range(1, 2501) if 2500 % number == 0
        ])

    def test_result_is_a_list_of_integers(self):
        for waits in POLICIES:
            found = inner_numbers(waits)
            self.assertIs(type(found), list)
            self.assertTrue(all(type(number) is int for number in found))

    def test_negative_waits(self):
        self.check(InvalidWait, 0, lambda: inner_numbers([-1]))
        self.check(InvalidWait, 1, lambda: inner_numbers([0, -HIGH, 3]))
        self.check(InvalidWait, 2, lambda: inner_numbers([0, 1, -1, 4, -5]))
        self.check(InvalidWait, 198, lambda: inner_numbers([1] * 198 + [-1]))
        self.check(InvalidWait, 1, lambda: inner_numbers([1, -1, 1, -1, 1]))


class Split(Raising):
    def test_written_out_cases(self):
        cases = [
            ([], 1, ([], [])),
            ([4], 1, ([], [4])),
            ([4], 2, ([4], [])),
            ([1, 2, 1, 2, 1], 1, ([], [1, 2, 1, 2, 1])),
            ([1, 2, 1, 2, 1], 6, ([1, 2, 1, 2, 1], [])),
            ([1, 2, 3, 1, 2], 3, ([1, 2], [3])),
            ([1, 2, 3, 1, 2, 4, 1, 2], 3, ([1, 2], [3, 4])),
            ([5] * 11, 4, ([5] * 3, [5] * 2)),
            ([0, HIGH, 0], 2, ([0], [HIGH])),
        ]
        for waits, number, expected in cases:
            self.assertEqual(split(waits, number), expected)

    def check_every_number(self, waits):
        good = by_definition(waits)
        for number in range(-2, 2 * len(waits) + 4):
            if number in good:
                inner, outer = split(waits, number)
                self.assertEqual(len(inner) + 1, number)
                self.assertEqual(nest(inner, outer), waits)
            else:
                self.check(InvalidNumber, number, lambda: split(waits, number))

    def test_every_number_of_larger_policies(self):
        for waits in POLICIES:
            self.check_every_number(waits)

    def test_every_number_of_small_policies(self):
        for waits in small_policies():
            if len(waits) < 8:
                self.check_every_number(waits)

    def test_parts_of_a_nesting(self):
        for inner in [[], [1], [1, 2], [5] * 6, [1, 2, 3, 4]]:
            for outer in [[], [1], [2, 1], [5] * 3, list(range(20))]:
                self.assertEqual(split(nest(inner, outer), len(inner) + 1), (inner, outer))

    def test_flattened_lists(self):
        self.assertEqual(split(flatten([[1, 2], (3, 3000)]), 3), ([1, 2], [3] * 2999))
        self.assertEqual(split(flatten([(4, 10000)]), 16), ([4] * 15, [4] * 624))

    def test_result_is_a_tuple_of_two_lists(self):
        for waits, number in [([], 1), ([1, 2], 1), ([1, 2], 3), ([1, 2, 1], 2)]:
            found = split(waits, number)
            self.assertIs(type(found), tuple)
            self.assertEqual([type(part) for part in found], [list, list])


class SplitErrors(Raising):
    def test_numbers_that_do_not_divide(self):
        for number in [0, -1, -2, -3, -6, 4, 5, 7, 12, 36, 10 ** 200 - 1, -10 ** 200]:
            self.check(InvalidNumber, number, lambda: split([1, 1, 1, 1, 1], number))

    def test_numbers_for_the_trivial_policy(self):
        for number in [0, -1, 2, 3, 10 ** 19]:
            self.check(InvalidNumber, number, lambda: split([], number))

    def test_divisors_that_are_no_inner_numbers(self):
        self.check(InvalidNumber, 3, lambda: split([1, 2, 1, 2, 1], 3))
        self.check(InvalidNumber, 2, lambda: split([1, 1, 2, 1, 1], 2))
        self.check(InvalidNumber, 2, lambda: split([1, 2, 2], 2))
        self.check(InvalidNumber, 2, lambda: split([1, 2, 3, 4, 5], 2))
        self.check(InvalidNumber, 3, lambda: split([1, 2, 3, 4, 5], 3))
        self.check(InvalidNumber, 100, lambda: split([5] * 198 + [6], 100))

    def test_negative_waits(self):
        self.check(InvalidWait, 0, lambda: split([-1], 1))
        self.check(InvalidWait, 1, lambda: split([1, -1, 1], 2))
        self.check(InvalidWait, 3, lambda: split([1, 2, 1, -2, -1], 6))

    def test_negative_wait_beside_a_wrong_number(self):
        for number in [0, -1, 3, 5, 10 ** 30]:
            self.check(InvalidWait, 2, lambda: split([1, 2, -1], number))
        self.check(InvalidWait, 1, lambda: split([1, -2, 3], 2))


class Arguments(unittest.TestCase):
    def test_calls_by_name(self):
        self.assertEqual(inner_numbers(waits=[1, 2, 1]), [1, 2, 4])
        self.assertEqual(split(waits=[1, 2, 1], number=2), ([1], [2]))
        self.assertEqual(split(number=2, waits=[1, 2, 1]), ([1], [2]))
        self.assertEqual(split([1, 2, 1], number=2), ([1], [2]))

    def test_arguments_are_left(self):
        for waits in POLICIES:
            kept = list(waits)
            for number in inner_numbers(waits):
                split(waits, number)
            self.assertEqual(waits, kept)

    def test_failing_calls_leave_the_argument(self):
        for waits, number in [([1, -1], 1), ([1, 2, 1], 3), ([1, 2, 2], 2), ([], 0)]:
            kept = list(waits)
            with self.assertRaises(RetryError):
                split(waits, number)
            self.assertEqual(waits, kept)
        waits = [2, -1]
        with self.assertRaises(InvalidWait):
            inner_numbers(waits)
        self.assertEqual(waits, [2, -1])

    def test_changing_results(self):
        for waits in [[], [1], [1, 2, 1], [5] * 11]:
            kept = list(waits)
            numbers = inner_numbers(waits)
            for number in numbers:
                expected = copy.deepcopy(split(waits, number))
                inner, outer = split(waits, number)
                inner.append(9)
                outer.append(8)
                inner[0] = outer[0] = 7
                self.assertEqual(waits, kept)
                self.assertEqual(split(waits, number), expected)
            found = inner_numbers(waits)
            found.append(9)
            found[0] = 3
            self.assertEqual(inner_numbers(waits), numbers)
            self.assertEqual(waits, kept)

    def test_the_two_parts_are_different_lists(self):
        inner, outer = split([], 1)
        inner.append(1)
        self.assertEqual(outer, [])

    def test_changing_an_argument_after_the_call(self):
        for number in [1, 2, 4]:
            waits = [1, 2, 1]
            expected = copy.deepcopy(split(waits, number))
            found = split(waits, number)
            numbers = inner_numbers(waits)
            waits[0] = 8
            waits.append(9)
            self.assertEqual(found, expected)
            self.assertEqual(numbers, [1, 2, 4])


if __name__ == "__main__":
    unittest.main()
