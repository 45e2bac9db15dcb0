"""Points [2], [4], [5], [6]: nest, attempts and flatten."""

import copy
import inspect
import itertools
import unittest

from helpers import HIGH, INVALID, Raising, by_layers, by_numbers
from retrynest.errors import InvalidWait, RetryError, TooManyAttempts
from retrynest.policies import attempts, flatten, nest

ORDINARY = [
    [], [0], [5], [HIGH], [0, 0], [1, 2], [7, 7, 7], [1, 2, 1], [4, 0, HIGH, 2], [3, 1, 4, 1, 5, 9, 2], [6] * 12,
    list(range(60)),
]


class Interface(unittest.TestCase):
    def test_parameters(self):
        self.assertEqual(list(inspect.signature(nest).parameters), ["inner", "outer"])
        self.assertEqual(list(inspect.signature(attempts).parameters), ["nesting"])
        self.assertEqual(list(inspect.signature(flatten).parameters), ["nesting"])

    def test_functions_are_defined_in_the_file(self):
        for function in [nest, attempts, flatten]:
            self.assertEqual(function.__module__, "retrynest.policies")

    def test_examples(self):
        self.assertEqual([nest([1, 2], [5]), nest([5], [1, 2])], [[1, 2, 5, 1, 2], [5, 1, 5, 2, 5]])
        self.assertEqual(
            [attempts([[1, 2], (5, 10 ** 19)]), flatten([(0, 2), [7], (3, 2)])],
            [30000000000000000000, [0, 7, 0, 3, 0, 7, 0]],
        )


class Nest(Raising):
    def test_written_out_cases(self):
        cases = [
            ([1], [2], [1, 2, 1]),
            ([2], [1], [2, 1, 2]),
            ([1, 2], [3, 4], [1, 2, 3, 1, 2, 4, 1, 2]),
            ([3, 4], [1, 2], [3, 4, 1, 3, 4, 2, 3, 4]),
            ([8, 8], [8], [8, 8, 8, 8, 8]),
            ([0], [0, 0], [0, 0, 0, 0, 0]),
            ([HIGH], [0], [HIGH, 0, HIGH]),
        ]
        for inner, outer, expected in cases:
            self.assertEqual(nest(inner, outer), expected)

    def test_trivial_policy_inside_outside_and_both(self):
        for waits in ORDINARY:
            self.assertEqual(nest([], waits), waits)
            self.assertEqual(nest(waits, []), waits)
        self.assertEqual(nest([], []), [])

    def test_numbering_wait_by_wait(self):
        for inner in ORDINARY:
            for outer in ORDINARY:
                self.assertEqual(nest(inner, outer), by_numbers(inner, outer))

    def test_result_is_a_list_of_integers(self):
        found = nest([1, 0], [HIGH])
        self.assertIs(type(found), list)
        self.assertEqual([type(wait) for wait in found], [int] * 5)

    def test_nesting_is_associative(self):
        for first, second, third in itertools.product([[1], [2, 3], [], [4, 4]], repeat=3):
            self.assertEqual(nest(nest(first, second), third), nest(first, nest(second, third)))

    def test_longer_lists_and_larger_waits_than_usual(self):
        inner, outer = [10 ** 30] * 70, list(range(61))
        self.assertEqual(nest(inner, outer), by_numbers(inner, outer))

    def test_exactly_the_most_attempts(self):
        for first, second in [(1, 10000), (10000, 1), (100, 100), (2, 5000), (5000, 2)]:
            inner, outer = [3] * (first - 1), [4] * (second - 1)
            found = nest(inner, outer)
            self.assertEqual(len(found), 9999)
            self.assertEqual(found, by_numbers(inner, outer))

    def test_too_many_attempts(self):
        for first, second in [(73, 137), (137, 73), (1, 10001), (10001, 1), (2, 5001), (101, 100), (10000, 10000)]:
            self.check(
                TooManyAttempts, first * second, lambda: nest([3] * (first - 1), [4] * (second - 1))
            )

    def test_flattened_list_is_passed_on(self):
        waits = flatten([(1, 2000)])
        self.assertEqual(nest(waits, [5, 6, 7, 8]), by_numbers(waits, [5, 6, 7, 8]))
        self.assertEqual(nest([5, 6, 7, 8], waits), by_numbers([5, 6, 7, 8], waits))
        longest = flatten([(1, 10000)])
        self.assertEqual(nest(longest, []), [1] * 9999)
        self.assertEqual(nest([], longest), [1] * 9999)
        self.check(TooManyAttempts, 20000, lambda: nest(longest, [1]))
        self.check(TooManyAttempts, 10 ** 8, lambda: nest(longest, longest))


class NestErrors(Raising):
    def test_negative_wait_in_the_inner_policy(self):
        self.check(InvalidWait, 0, lambda: nest([-1], [2]))
        self.check(InvalidWait, 2, lambda: nest([0, 1, -HIGH, 3], [2]))
        self.check(InvalidWait, 3, lambda: nest([0, 1, 2, -1], []))

    def test_negative_wait_in_the_outer_policy(self):
        self.check(InvalidWait, 0, lambda: nest([2], [-1]))
        self.check(InvalidWait, 2, lambda: nest([2], [0, 1, -HIGH, 3]))
        self.check(InvalidWait, 3, lambda: nest([], [0, 1, 2, -1]))

    def test_first_of_several_negative_waits(self):
        self.check(InvalidWait, 1, lambda: nest([0, -1, -2, 5, -9], [2]))
        self.check(InvalidWait, 2, lambda: nest([2], [4, 5, -1, -7]))

    def test_inner_policy_comes_first(self):
        self.check(InvalidWait, 2, lambda: nest([1, 1, -1], [-1]))
        self.check(InvalidWait, 0, lambda: nest([-1], [1, 1, -1]))

    def test_negative_wait_beside_too_many_attempts(self):
        self.check(InvalidWait, 9999, lambda: nest([1] * 9999 + [-1], [1]))
        self.check(InvalidWait, 9999, lambda: nest([1], [1] * 9999 + [-1]))
        self.check(InvalidWait, 1, lambda: nest([1, -1], [1] * 20000))
        self.check(InvalidWait, 1, lambda: nest([1] * 20000, [1, -1]))


NESTINGS = [
    [],
    [[]],
    [[], []],
    [(5, 1)],
    [(0, 1), (3, 1), []],
    [(0, 2)],
    [(7, 5)],
    [[4]],
    [[1, 2, 3]],
    [[1, 2], (5, 3)],
    [(5, 3), [1, 2]],
    [[1], [2], [3], [4]],
    [[], [1, 2], (9, 1), [], (3, 4), []],
    [(2, 2), (2, 3), [2]],
    [(HIGH, 2), [HIGH, 0], (0, 3)],
    [(1, 2), [2], (3, 2), [4], (5, 2), [6], (7, 2), [8]],
    [[9], (8, 2), [7], (6, 2), [5], (4, 2), [3], (2, 2)],
    [(1, 3), [], (1, 1), [2, 5], (1, 1), (4, 2), [], [6]],
    [list(range(60)), (1, 100)],
]


class Attempts(Raising):
    def test_ordinary_nestings(self):
        for nesting in NESTINGS:
            self.assertEqual(attempts(nesting), len(by_layers(nesting)) + 1)

    def test_empty_nesting_and_empty_lists(self):
        self.assertEqual(attempts([]), 1)
        self.assertEqual(attempts([[]]), 1)
        self.assertEqual(attempts([[], [], []]), 1)

    def test_constant_layers(self):
        self.assertEqual(attempts([(0, 1)]), 1)
        self.assertEqual(attempts([(HIGH, 1), (5, 1)]), 1)
        self.assertEqual(attempts([(5, 2)]), 2)
        self.assertEqual(attempts([(5, 10 ** 20 - 1)]), 10 ** 20 - 1)
        self.assertEqual(attempts([[1, 2], (5, 10 ** 20 - 1), (0, 7)]), 21 * (10 ** 20 - 1))

    def test_eight_large_layers(self):
        self.assertEqual(attempts([(5, 10 ** 20 - 1)] * 8), (10 ** 20 - 1) ** 8)

    def test_many_layers_and_large_numbers(self):
        self.assertEqual(attempts([(5, 10 ** 300)] * 50), 10 ** 15000)
        self.assertEqual(attempts([[1]] * 3000), 2 ** 3000)

    def test_result_is_an_integer(self):
        self.assertIs(type(attempts([])), int)
        self.assertIs(type(attempts([[1], (2, 3)])), int)


class Flatten(Raising):
    def test_written_out_cases(self):
        cases = [
            ([], []),
            ([[]], []),
            ([[], [], []], []),
            ([(8, 1)], []),
            ([(8, 1), [], (9, 1)], []),
            ([(8, 2)], [8]),
            ([(8, 4)], [8, 8, 8]),
            ([[1, 2]], [1, 2]),
            ([[1], [2], [3]], [1, 2, 1, 3, 1, 2, 1]),
            ([[1, 2], (5, 3)], [1, 2, 5, 1, 2, 5, 1, 2]),
            ([(5, 3), [1, 2]], [5, 5, 1, 5, 5, 2, 5, 5]),
            ([(0, 2), [7], (3, 2)], [0, 7, 0, 3, 0, 7, 0]),
        ]
        for nesting, expected in cases:
            self.assertEqual(flatten(nesting), expected)

    def test_ordinary_nestings(self):
        for nesting in NESTINGS:
            self.assertEqual(flatten(nesting), by_layers(nesting))

    def test_trivial_layers_change_nothing(self):
        for trivial in [[], (0, 1), (HIGH, 1)]:
            for nesting in NESTINGS:
                for place in range(len(nesting) + 1):
                    more = nesting[:place] + [trivial] + nesting[place:]
                    self.assertEqual(flatten(more), flatten(nesting))

    def test_agrees_with_nest(self):
        for inner in ORDINARY:
            for outer in ORDINARY:
                self.assertEqual(flatten([inner, outer]), nest(inner, outer))

    def test_exactly_the_most_attempts(self):
        for nesting in [[(4, 10000)], [[3] * 9999], [(1, 100), (2, 100)], [(1, 10), [2] * 9, (3, 10), [4] * 9]]:
            found = flatten(nesting)
            self.assertEqual(len(found), 9999)
            self.assertEqual(found, by_layers(nesting))

    def test_too_many_attempts(self):
        self.check(TooManyAttempts, 10001, lambda: flatten([(4, 10001)]))
        self.check(TooManyAttempts, 10001, lambda: flatten([[4] * 10000]))
        self.check(TooManyAttempts, 10001, lambda: flatten([(1, 73), [2] * 136]))
        self.check(TooManyAttempts, 10 ** 20 - 1, lambda: flatten([(4, 10 ** 20 - 1)]))
        self.check(TooManyAttempts, (10 ** 20 - 1) ** 8, lambda: flatten([(4, 10 ** 20 - 1)] * 8))
        self.check(TooManyAttempts, 3 * 10 ** 19, lambda: flatten([[1, 2], (5, 10 ** 19)]))
        self.check(TooManyAttempts, 20000, lambda: flatten([(1, 10000), [], (3, 1), [2]]))

    def test_too_many_attempts_with_a_very_long_number(self):
        self.check(TooManyAttempts, 10 ** 15000, lambda: flatten([(5, 10 ** 300)] * 50))

    def test_flattened_list_as_a_layer(self):
        waits = flatten([(1, 100), [2] * 99])
        self.assertEqual(flatten([waits]), waits)
        self.assertEqual(flatten([[], waits, (3, 1)]), waits)
        half = flatten([(1, 5000)])
        self.assertEqual(flatten([half, [6]]), [1] * 4999 + [6] + [1] * 4999)

    def test_many_trivial_layers_around_a_long_one(self):
        nesting = [[]] * 5000 + [(1, 10000)] + [(2, 1)] * 5000
        self.assertEqual(flatten(nesting), [1] * 9999)


class NestingErrors(Raising):
    def test_attempts(self):
        self.check_layers(attempts)

    def test_flatten(self):
        self.check_layers(flatten)


class Arguments(unittest.TestCase):
    def test_calls_by_name(self):
        self.assertEqual(nest(inner=[1, 2], outer=[5]), [1, 2, 5, 1, 2])
        self.assertEqual(nest(outer=[5], inner=[1, 2]), [1, 2, 5, 1, 2])
        self.assertEqual(nest([1, 2], outer=[5]), [1, 2, 5, 1, 2])
        self.assertEqual(attempts(nesting=[(1, 3)]), 3)
        self.assertEqual(flatten(nesting=[(1, 3)]), [1, 1])

    def test_nest_leaves_its_arguments(self):
        for inner in ORDINARY:
            for outer in ORDINARY:
                kept = copy.deepcopy([inner, outer])
                nest(inner, outer)
                self.assertEqual([inner, outer], kept)

    def test_nest_of_a_list_in_itself(self):
        waits = [1, 2]
        self.assertEqual(nest(waits, waits), [1, 2, 1, 1, 2, 2, 1, 2])
        self.assertEqual(waits, [1, 2])

    def test_nesting_functions_leave_their_argument(self):
        for nesting in NESTINGS:
            kept = copy.deepcopy(nesting)
            attempts(nesting)
            flatten(nesting)
            self.assertEqual(nesting, kept)

    def test_failing_calls_leave_their_arguments(self):
        for _, nesting in INVALID + [(0, [[1], (2, 10 ** 19)])]:
            kept = copy.deepcopy(nesting)
            with self.assertRaises(RetryError):
                flatten(nesting)
            self.assertEqual(nesting, kept)
        for inner, outer in [([1, -1], [2]), ([2], [1, -1]), ([1] * 200, [2] * 200)]:
            kept = copy.deepcopy([inner, outer])
            with self.assertRaises(RetryError):
                nest(inner, outer)
            self.assertEqual([inner, outer], kept)

    def test_changing_a_result_of_nest(self):
        for inner, outer in [([1, 2], []), ([], [1, 2]), ([], []), ([1], [2])]:
            kept = copy.deepcopy([inner, outer])
            expected = by_numbers(inner, outer)
            found = nest(inner, outer)
            found.append(9)
            found[0] = 8
            self.assertEqual([inner, outer], kept)
            self.assertEqual(nest(inner, outer), expected)

    def test_changing_a_result_of_flatten(self):
        for nesting in [[], [[]], [[1, 2]], [[], [1, 2], (3, 1)], [(4, 3)], [[1], (2, 3)]]:
            kept = copy.deepcopy(nesting)
            expected = by_layers(nesting)
            found = flatten(nesting)
            found.append(9)
            found[0] = 8
            self.assertEqual(nesting, kept)
            self.assertEqual(flatten(nesting), expected)

    def test_changing_an_argument_after_the_call(self):
        for inner, outer in [([1, 2], []), ([], [1, 2]), ([1], [2])]:
            expected = by_numbers(inner, outer)
            found = nest(inner, outer)
            inner.append(7)
            outer.insert(0, 7)
            self.assertEqual(found, expected)
        for nesting in [[[1, 2]], [[1, 2], []], [[], [1, 2]], [[1], (2, 3)]]:
            expected = by_layers(nesting)
            found = flatten(nesting)
            nesting[0].append(7)
            nesting[-1] = [7, 7]
            nesting.append([8])
            self.assertEqual(found, expected)


if __name__ == "__main__":
    unittest.main()
