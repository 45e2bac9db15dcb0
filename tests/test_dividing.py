"""Points [2], [4] to [9]: without_inner, without_outer and common_inner."""

import inspect
import itertools
import math
import unittest

from helpers import HIGH, MANY, Keeping, Raising, by_layers, by_numbers, is_normal, short_nestings
from retrynest.dividing import common_inner, without_inner, without_outer
from retrynest.errors import InvalidLayer
from retrynest.normal import normal_form
from retrynest.policies import flatten

# Nestings in normal form.
PARTS = [
    [],
    [(1, 2)],
    [(1, 6)],
    [(1, MANY)],
    [(2, 6)],
    [[2, 3]],
    [[1, 2, 2], (1, 4)],
    [(1, 6), [2, 3], (1, 4)],
    [(2, 2), (1, 6), (2, 2)],
    [(0, MANY), (HIGH, MANY), (0, MANY), (HIGH, MANY)],
    [(1, 6), [2, 3], (1, 6), [2, 3], (1, 6)],
    [[2, 3], [2, 3], [3, 2], [2, 3]],
]


def another_way(nesting):
    """The same policy, with other layers."""
    found = [[]]
    for layer in nesting:
        if isinstance(layer, list):
            found.extend([layer, (7, 1)])
        elif layer[1] % 3 == 0:
            found.extend([[layer[0]] * 2, (layer[0], layer[1] // 3)])
        elif layer[1] % 2 == 0:
            found.extend([(layer[0], layer[1] // 2), [layer[0]], []])
        else:
            found.append(layer)
    return found


def inner_rest(waits, inner):
    """The outer policy, if the inner one is nested in one, else None; on flat lists."""
    count = len(inner) + 1
    rest = waits[count - 1::count]
    return rest if by_numbers(inner, rest) == waits else None


def outer_rest(waits, outer):
    """The inner policy, if one is nested in the outer one, else None; on flat lists."""
    rest = waits[:(len(waits) + 1) // (len(outer) + 1) - 1]
    return rest if by_numbers(rest, outer) == waits else None


def largest_common(first, second):
    """The longest policy that is nested in one for both policies; on flat lists."""
    count = math.gcd(len(first) + 1, len(second) + 1)
    while True:
        waits = first[:count - 1]
        if inner_rest(first, waits) is not None and inner_rest(second, waits) is not None:
            return waits
        count -= 1


def different_policies(most, waits):
    """Short nestings of different policies with at most so many waits, with their policies."""
    found = {}
    for nesting in short_nestings(most):
        policy = by_layers(nesting)
        if len(policy) <= waits:
            found[tuple(policy)] = nesting
    return [(nesting, list(policy)) for policy, nesting in found.items()]


class Interface(Raising):
    def test_parameters(self):
        self.assertEqual(list(inspect.signature(without_inner).parameters), ["nesting", "inner"])
        self.assertEqual(list(inspect.signature(without_outer).parameters), ["nesting", "outer"])
        self.assertEqual(list(inspect.signature(common_inner).parameters), ["first", "second"])

    def test_functions_are_defined_in_the_file(self):
        for function in [without_inner, without_outer, common_inner]:
            self.assertEqual(function.__module__, "retrynest.dividing")

    def test_calls_by_name(self):
        self.assertEqual(without_inner(inner=[[1]], nesting=[(1, 2), [2, 3]]), [[2, 3]])
        self.assertEqual(without_outer(outer=[[2, 3]], nesting=[(1, 2), [2, 3]]), [(1, 2)])
        self.assertEqual(common_inner(second=[[1]], first=[(1, 4), [2, 3]]), [(1, 2)])
        self.check(InvalidLayer, 1, lambda: common_inner(second=[[-1]], first=[[], [-1]]))

    def test_examples(self):
        nesting = [(1, 6), [2, 3], (1, 4)]
        self.assertEqual(
            [
                without_inner(nesting, [(1, 2)]), without_inner(nesting, [(1, 4)]),
                without_outer(nesting, [[2, 3], (1, 4)]),
            ],
            [[(1, 3), [2, 3], (1, 4)], None, [(1, 6)]],
        )
        self.assertEqual(common_inner([(1, 6), [2, 3]], [(1, 4), (9, 2)]), [(1, 2)])


class Dividing(Raising):
    def check_rests(self, function, rest_of):
        policies = different_policies(2, 30)
        for (nesting, waits), (part, part_waits) in itertools.product(policies, repeat=2):
            found = function(nesting, part)
            expected = rest_of(waits, part_waits)
            if expected is None:
                self.assertIsNone(found)
            else:
                self.assertTrue(is_normal(found))
                self.assertEqual(by_layers(found), expected)


class WithoutInner(Dividing):
    def test_rest_of_a_nesting(self):
        for inner, outer in itertools.product(PARTS, repeat=2):
            whole = inner + outer
            self.assertEqual(without_inner(whole, inner), outer)
            self.assertEqual(without_inner(another_way(whole), inner), outer)
            self.assertEqual(without_inner(whole, another_way(inner)), outer)

    def test_trivial_part_and_the_policy_itself(self):
        for nesting in PARTS:
            for trivial in [[], [[]], [(5, 1)], [(0, 1), []]]:
                self.assertEqual(without_inner(nesting, trivial), nesting)
                self.assertEqual(without_inner(another_way(nesting), trivial), nesting)
            self.assertEqual(without_inner(nesting, nesting), [])
            self.assertEqual(without_inner(nesting, another_way(nesting)), [])
            self.assertEqual(without_inner(another_way(nesting), nesting), [])

    def test_nothing_but_the_trivial_policy_is_in_it(self):
        self.assertEqual(without_inner([], []), [])
        for nesting in PARTS[1:]:
            self.assertIsNone(without_inner([], nesting))
            self.assertIsNone(without_inner([[], (1, 1)], nesting))

    def test_other_parts(self):
        nesting = [(1, 6), [2, 3], (1, 4)]
        for part in [
            [(1, 4)], [(1, 5)], [(1, 12)], [(1, 24)], [(2, 2)], [(2, 6)], [[2, 3]], [(1, 2), [2, 3]], [(1, 3), [2, 3]],
            [(1, 6), [3, 2]], [(1, 6), [2, 3], (1, 3)], [(1, 6), [2, 3], (1, 8)], [(1, 6), [2, 3], (2, 2)],
            [(1, 6), (2, 3)], [(1, 6), [2, 3], (1, 4), [5]], [(1, 6), [2, 3], (1, 4), (1, 2)], [(1, 6), [2, 3], [2, 3]],
        ]:
            self.assertIsNone(without_inner(nesting, part))

    def test_layers_that_are_divided(self):
        nesting = [(1, 6), [2, 3], (1, 4), (2, 9)]
        cases = [
            ([(1, 2)], [(1, 3), [2, 3], (1, 4), (2, 9)]),
            ([(1, 3)], [(1, 2), [2, 3], (1, 4), (2, 9)]),
            ([(1, 6)], [[2, 3], (1, 4), (2, 9)]),
            ([(1, 6), [2, 3]], [(1, 4), (2, 9)]),
            ([(1, 6), [2, 3], [1]], [(1, 2), (2, 9)]),
            ([(1, 6), [2, 3], (1, 4)], [(2, 9)]),
            ([(1, 6), [2, 3], (1, 4), [2, 2]], [(2, 3)]),
        ]
        for part, rest in cases:
            self.assertEqual(without_inner(nesting, part), rest)
            self.assertEqual(normal_form(part + rest), nesting)

    def test_parts_across_a_seam(self):
        self.assertEqual(without_inner([(1, 2), (1, 15), [2, 3]], [(1, 6)]), [(1, 5), [2, 3]])
        self.assertEqual(without_inner([[1], [1, 2, 1], [3, 4]], [(1, 4)]), [(2, 2), [3, 4]])
        self.assertEqual(without_inner([[1, 2, 1], (2, 5), [3, 4]], [[1], (2, 5)]), [(2, 2), [3, 4]])

    def test_compared_with_flat_lists(self):
        self.check_rests(without_inner, inner_rest)

    def test_large_layers(self):
        nesting = [(5, MANY), [5, 6], (5, MANY), (6, MANY)]
        self.assertEqual(without_inner(nesting, [(5, 9)]), [(5, MANY // 9), [5, 6], (5, MANY), (6, MANY)])
        self.assertEqual(without_inner(nesting, [(5, MANY), [5, 6], (5, MANY // 11)]), [(5, 11), (6, MANY)])
        self.assertIsNone(without_inner(nesting, [(5, MANY - 1)]))
        self.assertIsNone(without_inner(nesting, [(5, 2 * MANY)]))
        self.assertEqual(without_inner([(5, MANY)] * 8, [(5, MANY)] * 3), [(5, MANY ** 5)])
        self.assertIsNone(without_inner([(5, MANY)] * 3, [(5, MANY)] * 8))
        self.assertIsNone(without_inner([(5, MANY)] * 8, [(5, MANY ** 3 - 1)]))

    def test_flattened_lists(self):
        nesting = [(1, 4), [2, 3], (1, 5), [4, 5, 6], (7, 2), [1, 1, 2], (1, 5)]
        waits = flatten(nesting)
        for end in range(len(nesting) + 1):
            self.assertEqual(without_inner([waits], nesting[:end]), nesting[end:])
            self.assertEqual(without_inner([waits], [flatten(nesting[:end])]), nesting[end:])
        self.assertEqual(without_inner([waits, (9, MANY)], [waits]), [(9, MANY)])
        self.assertIsNone(without_inner([waits], [waits[:-1] + [6]]))

    def test_errors(self):
        self.check_layers_of_two(without_inner)


class WithoutOuter(Dividing):
    def test_rest_of_a_nesting(self):
        for inner, outer in itertools.product(PARTS, repeat=2):
            whole = inner + outer
            self.assertEqual(without_outer(whole, outer), inner)
            self.assertEqual(without_outer(another_way(whole), outer), inner)
            self.assertEqual(without_outer(whole, another_way(outer)), inner)

    def test_trivial_part_and_the_policy_itself(self):
        for nesting in PARTS:
            for trivial in [[], [[]], [(5, 1)], [(0, 1), []]]:
                self.assertEqual(without_outer(nesting, trivial), nesting)
                self.assertEqual(without_outer(another_way(nesting), trivial), nesting)
            self.assertEqual(without_outer(nesting, nesting), [])
            self.assertEqual(without_outer(nesting, another_way(nesting)), [])
            self.assertEqual(without_outer(another_way(nesting), nesting), [])

    def test_nothing_but_the_trivial_policy_is_around_it(self):
        self.assertEqual(without_outer([], []), [])
        for nesting in PARTS[1:]:
            self.assertIsNone(without_outer([], nesting))
            self.assertIsNone(without_outer([[], (1, 1)], nesting))

    def test_other_parts(self):
        nesting = [(1, 4), [2, 3], (1, 6)]
        for part in [
            [(1, 4)], [(1, 5)], [(1, 12)], [(1, 24)], [(2, 2)], [(2, 6)], [[2, 3]], [[2, 3], (1, 2)], [[2, 3], (1, 3)],
            [[3, 2], (1, 6)], [(1, 3), [2, 3], (1, 6)], [(1, 8), [2, 3], (1, 6)], [(2, 2), [2, 3], (1, 6)],
            [(2, 3), (1, 6)], [[5], (1, 4), [2, 3], (1, 6)], [(1, 2), (1, 4), [2, 3], (1, 6)], [[2, 3], [2, 3], (1, 6)],
        ]:
            self.assertIsNone(without_outer(nesting, part))

    def test_layers_that_are_divided(self):
        nesting = [(2, 9), (1, 4), [2, 3], (1, 6)]
        cases = [
            ([(1, 2)], [(2, 9), (1, 4), [2, 3], (1, 3)]),
            ([(1, 3)], [(2, 9), (1, 4), [2, 3], (1, 2)]),
            ([(1, 6)], [(2, 9), (1, 4), [2, 3]]),
            ([[2, 3], (1, 6)], [(2, 9), (1, 4)]),
            ([[1], [2, 3], (1, 6)], [(2, 9), (1, 2)]),
            ([(1, 4), [2, 3], (1, 6)], [(2, 9)]),
            ([[2, 2], (1, 4), [2, 3], (1, 6)], [(2, 3)]),
        ]
        for part, rest in cases:
            self.assertEqual(without_outer(nesting, part), rest)
            self.assertEqual(normal_form(rest + part), nesting)

    def test_parts_across_a_seam(self):
        self.assertEqual(without_outer([[2, 3], (1, 2), (1, 15)], [(1, 6)]), [[2, 3], (1, 5)])
        self.assertEqual(without_outer([[3, 4], [2, 1, 2], [1]], [(1, 4)]), [[3, 4], (2, 2)])
        self.assertEqual(without_outer([[3, 4], (2, 5), [2, 1, 2]], [(2, 5), [1]]), [[3, 4], (2, 2)])

    def test_waits_stay_in_their_order(self):
        self.assertEqual(without_outer([[1, 2, 3], [4, 5], [6, 7]], [[6, 7]]), [[1, 2, 3], [4, 5]])
        self.assertIsNone(without_outer([[1, 2, 3], [4, 5], [6, 7]], [[7, 6]]))

    def test_compared_with_flat_lists(self):
        self.check_rests(without_outer, outer_rest)

    def test_large_layers(self):
        nesting = [(6, MANY), (5, MANY), [5, 6], (5, MANY)]
        self.assertEqual(without_outer(nesting, [(5, 9)]), [(6, MANY), (5, MANY), [5, 6], (5, MANY // 9)])
        self.assertEqual(without_outer(nesting, [(5, MANY // 11), [5, 6], (5, MANY)]), [(6, MANY), (5, 11)])
        self.assertIsNone(without_outer(nesting, [(5, MANY - 1)]))
        self.assertIsNone(without_outer(nesting, [(5, 2 * MANY)]))
        self.assertEqual(without_outer([(5, MANY)] * 8, [(5, MANY)] * 3), [(5, MANY ** 5)])
        self.assertIsNone(without_outer([(5, MANY)] * 3, [(5, MANY)] * 8))
        self.assertIsNone(without_outer([(5, MANY)] * 8, [(5, MANY ** 3 - 1)]))

    def test_flattened_lists(self):
        nesting = [(1, 4), [2, 3], (1, 5), [4, 5, 6], (7, 2), [1, 1, 2], (1, 5)]
        waits = flatten(nesting)
        for end in range(len(nesting) + 1):
            self.assertEqual(without_outer([waits], nesting[end:]), nesting[:end])
            self.assertEqual(without_outer([waits], [flatten(nesting[end:])]), nesting[:end])
        self.assertEqual(without_outer([(9, MANY), waits], [waits]), [(9, MANY)])
        self.assertIsNone(without_outer([waits], [waits[:-1] + [6]]))

    def test_errors(self):
        self.check_layers_of_two(without_outer)


class CommonInner(Raising):
    def check_both_ways(self, first, second, expected):
        self.assertEqual(common_inner(first, second), expected)
        self.assertEqual(common_inner(second, first), expected)
        self.assertEqual(common_inner(another_way(first), second), expected)
        self.assertEqual(common_inner(first, another_way(second)), expected)

    def test_nothing_in_common(self):
        for first, second in [
            ([], []), ([], [(1, 2)]), ([(1, 2)], [(2, 2)]), ([(1, 2)], [(1, 3)]), ([(1, 4)], [(1, 9), [1, 2]]),
            ([[1, 2]], [[1, 3]]), ([[1, 2]], [(1, 3)]), ([(1, 3)], [[1, 2]]), ([(1, 2), [2, 3]], [(2, 2), [2, 3]]),
            ([(1, 2), [2, 3]], [(1, 3), [2, 3]]), ([[1, 2], (5, 3)], [[2, 1], (5, 3)]), ([(5, MANY)], [(6, MANY)]),
            ([(5, MANY)], [(5, MANY - 1)]),
        ]:
            self.check_both_ways(first, second, [])

    def test_policies_and_their_parts(self):
        for inner, outer in itertools.product(PARTS, repeat=2):
            self.check_both_ways(inner, inner + outer, inner)
            self.check_both_ways(inner, inner, inner)

    def test_common_divisors_of_layers(self):
        cases = [
            ([(1, 6)], [(1, 4)], [(1, 2)]),
            ([(1, 12), [2, 3]], [(1, 18), [2, 3]], [(1, 6)]),
            ([(1, 4), [2, 3]], [(1, 8)], [(1, 4)]),
            ([(1, 4), [2, 3]], [(1, 2), [2, 3]], [(1, 2)]),
            ([[2, 3], (1, 4), [5, 6]], [[2, 3], (1, 6), [5, 6]], [[2, 3], (1, 2)]),
            ([[2, 3], (1, 4), [5, 6]], [[2, 3], (1, 9), [5, 6]], [[2, 3]]),
            ([[2, 3], (1, 4), [5, 6]], [[2, 3], (2, 4), [5, 6]], [[2, 3]]),
            ([[2, 3], (1, 4), [5, 6]], [[2, 3], (1, 4), [5, 7]], [[2, 3], (1, 4)]),
            ([(1, 4), (2, 6), (1, 9)], [(1, 4), (2, 6), (1, 6), (2, 3)], [(1, 4), (2, 6), (1, 3)]),
        ]
        for first, second, expected in cases:
            self.check_both_ways(first, second, expected)

    def test_large_layers(self):
        self.check_both_ways([(5, MANY)], [(5, MANY // 9), [5, 6]], [(5, MANY // 9)])
        self.check_both_ways([(5, MANY * (MANY - 1))], [(5, MANY * (MANY - 2))], [(5, MANY)])
        self.check_both_ways([(5, MANY ** 8)], [(5, (MANY // 3) ** 8 * 2), (6, 2)], [(5, (MANY // 3) ** 8)])
        self.check_both_ways(
            [(5, MANY), (6, MANY), (5, MANY)], [(5, MANY), (6, MANY), (5, 10 ** 19 - 1)], [(5, MANY), (6, MANY), (5, 9)]
        )

    def test_compared_with_flat_lists(self):
        policies = different_policies(2, 18)
        for (first, waits), (second, other_waits) in itertools.product(policies, repeat=2):
            found = common_inner(first, second)
            self.assertTrue(is_normal(found))
            self.assertEqual(by_layers(found), largest_common(waits, other_waits))

    def test_is_an_inner_part_of_both(self):
        for first, second in itertools.product(PARTS, repeat=2):
            found = common_inner(first, second)
            rest = without_inner(first, found)
            other_rest = without_inner(second, found)
            self.assertEqual(common_inner(rest, other_rest), [])

    def test_flattened_lists(self):
        nesting = [(1, 4), [2, 3], (1, 5), [4, 5, 6], (7, 2), [1, 1, 2], (1, 5)]
        waits = flatten(nesting)
        self.check_both_ways([waits], [waits, (3, MANY)], nesting)
        self.check_both_ways([waits], nesting[:3] + [(1, MANY)], nesting[:3])
        self.check_both_ways([waits], nesting[:2] + [(1, MANY)], nesting[:2])

    def test_errors(self):
        self.check_layers_of_two(common_inner)


class Arguments(Keeping):
    def test_without_inner(self):
        for part in [[], [[1]], [(1, 6)], [(1, 6), [2, 3]], [(1, 6), [2, 3], [1]], [(1, 6), [2, 3], (1, 4), [5, 6]]]:
            self.check_kept(without_inner, [(1, 6), [2, 3], (1, 4), [5, 6]], part)

    def test_without_outer(self):
        for part in [[], [[1]], [(1, 6)], [[2, 3], (1, 6)], [[1], [2, 3], (1, 6)], [[9]]]:
            self.check_kept(without_outer, [[5, 6], (1, 4), [2, 3], (1, 6)], part)

    def test_common_inner(self):
        for second in [[], [[1]], [(1, 6)], [(1, 6), [2, 3]], [(1, 6), [2, 3], [1]], [(1, 6), [2, 3], (1, 4), [5, 6]]]:
            self.check_kept(common_inner, [(1, 6), [2, 3], (1, 4), [5, 6]], second)

    def test_one_list_in_both_nestings(self):
        waits = [2, 3]
        for call in [without_inner, without_outer, common_inner]:
            self.check_kept(call, [waits, waits, waits], [waits])
            nesting = [waits, (5, 6), waits]
            self.check_kept(call, nesting, nesting)


if __name__ == "__main__":
    unittest.main()
