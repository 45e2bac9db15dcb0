"""Points [2], [4], [6], [7], [8], [9]: normal_form, is_unsplittable and same_policy."""

import copy
import inspect
import itertools
import unittest

from helpers import (
    HIGH, LAYERS, MANY, Keeping, Raising, all_policies, by_layers, by_numbers, is_normal, is_single,
    results_of_nesting, scramble, short_nestings,
)
from retrynest.errors import InvalidLayer, InvalidWait
from retrynest.normal import is_unsplittable, normal_form, same_policy
from retrynest.policies import attempts, flatten

PRIMES = [2, 3, 5, 7, 11, 13, 59, 61, 97, 199, 9973]
COMPOSITES = [4, 6, 8, 9, 12, 25, 49, 60, 121, 187, 200, 9409, 10000]


class Interface(Raising):
    def test_parameters(self):
        self.assertEqual(list(inspect.signature(normal_form).parameters), ["nesting"])
        self.assertEqual(list(inspect.signature(is_unsplittable).parameters), ["waits"])
        self.assertEqual(list(inspect.signature(same_policy).parameters), ["first", "second"])

    def test_functions_are_defined_in_the_file(self):
        for function in [normal_form, is_unsplittable, same_policy]:
            self.assertEqual(function.__module__, "retrynest.normal")

    def test_calls_by_name(self):
        self.assertEqual(normal_form(nesting=[[1]]), [(1, 2)])
        self.assertIs(is_unsplittable(waits=[1]), True)
        self.assertIs(same_policy(second=[(1, 2)], first=[[1]]), True)
        self.check(InvalidLayer, 1, lambda: same_policy(second=[[-1]], first=[[], [-1]]))

    def test_examples(self):
        self.assertEqual(
            [normal_form([[1, 2, 1, 2, 1]]), normal_form([(4, 3), [4], [], [4, 5, 4]])],
            [[(1, 2), (2, 3)], [(4, 12), (5, 2)]],
        )
        self.assertEqual(
            [is_unsplittable([1, 2, 3]), is_unsplittable([1, 2, 1]), is_unsplittable([8, 8]), is_unsplittable([])],
            [True, False, True, False],
        )
        self.assertEqual(
            [same_policy([(1, 2), (1, 15)], [(1, 6), (1, 5)]), same_policy([(1, 2), (2, 3)], [(2, 3), (1, 2)])],
            [True, False],
        )


class Unsplittable(Raising):
    def test_trivial_policy(self):
        self.assertIs(is_unsplittable([]), False)

    def test_one_wait(self):
        for wait in [0, 1, HIGH, 10 ** 30]:
            self.assertIs(is_unsplittable([wait]), True)

    def test_constant_policies(self):
        for wait in [0, 5, HIGH]:
            for count in PRIMES:
                self.assertIs(is_unsplittable([wait] * (count - 1)), True)
            for count in COMPOSITES:
                self.assertIs(is_unsplittable([wait] * (count - 1)), False)

    def test_written_out_cases(self):
        for waits in [[1, 2], [1, 2, 2], [1, 2, 3], [1, 2, 3, 4, 5], [1, 2, 3, 1, 4], [1, 1, 2, 1, 2], [2, 1, 1, 1, 1]]:
            self.assertIs(is_unsplittable(waits), True)
        for waits in [[1, 2, 1], [1, 2, 3, 1, 2], [1, 2, 1, 3, 1], [1, 1, 2, 1, 1], [0, 0, 0, 7, 0, 0, 0]]:
            self.assertIs(is_unsplittable(waits), False)

    def test_compared_with_the_definition(self):
        for kinds, most in [(2, 6), (3, 6), (2, 8)]:
            splittable = results_of_nesting(kinds, most)
            for waits in all_policies(kinds, most):
                expected = waits != [] and tuple(waits) not in splittable
                self.assertIs(is_unsplittable(waits), expected)

    def test_inner_number_beside_the_largest_divisor(self):
        for inner, outer in [([1], list(range(29))), (list(range(29)), [1]), (list(range(5)), list(range(9)))]:
            waits = by_numbers(inner, outer)
            self.assertIs(is_unsplittable(waits), False)
            for place in range(0, len(waits), 7):
                changed = list(waits)
                changed[place] = 99
                self.assertIs(is_unsplittable(changed), is_single(changed))

    def test_lists_with_a_prime_number_of_attempts(self):
        for count in PRIMES:
            self.assertIs(is_unsplittable([number % 2 for number in range(count - 1)]), True)

    def test_flattened_lists(self):
        self.assertIs(is_unsplittable(flatten([(1, 2), [3] * 4999])), False)
        self.assertIs(is_unsplittable(flatten([[3] * 4999, (1, 2)])), False)
        self.assertIs(is_unsplittable(flatten([(3, 9973)])), True)
        self.assertIs(is_unsplittable(flatten([(3, 9972)]) + [4]), True)
        self.assertIs(is_unsplittable(flatten([(3, 9999)]) + [4]), True)
        self.assertIs(is_unsplittable(list(range(9999))), True)

    def test_negative_waits(self):
        self.check(InvalidWait, 0, lambda: is_unsplittable([-1]))
        self.check(InvalidWait, 1, lambda: is_unsplittable([1, -2, 1, -3]))
        self.check(InvalidWait, 2, lambda: is_unsplittable([-0, 0, -HIGH]))
        self.check(InvalidWait, 9998, lambda: is_unsplittable(flatten([(1, 9999)]) + [-1]))

    def test_argument_is_left(self):
        for waits in [[], [1], [1, 2], [1, 2, 1], [7] * 59]:
            kept = list(waits)
            answer = is_unsplittable(waits)
            self.assertEqual(waits, kept)
            scramble(waits)
            self.assertIs(is_unsplittable(kept), answer)
        waits = [1, -1]
        self.check(InvalidWait, 1, lambda: is_unsplittable(waits))
        self.assertEqual(waits, [1, -1])


class NormalForm(Raising):
    def test_nothing_but_trivial_layers(self):
        for nesting in [[], [[]], [[], [], []], [(0, 1)], [(5, 1), [], (5, 1)], [(HIGH, 1)] * 8]:
            self.assertEqual(normal_form(nesting), [])

    def test_one_wait_in_neighbouring_layers(self):
        for nesting in [
            [(4, 6)], [[4] * 5], [(4, 2), (4, 3)], [[4], (4, 3)], [(4, 3), [4]], [[4], [4, 4]], [[4, 4], [4]],
            [(4, 2), [], (4, 3)], [[4], (9, 1), [4, 4]], [(4, 1), (4, 2), [], [], (4, 3), (4, 1)],
        ]:
            self.assertEqual(normal_form(nesting), [(4, 6)])

    def test_the_same_wait_apart(self):
        self.assertEqual(normal_form([(4, 2), (5, 3), (4, 3)]), [(4, 2), (5, 3), (4, 3)])
        self.assertEqual(normal_form([(4, 2), [4, 5], (4, 3)]), [(4, 2), [4, 5], (4, 3)])
        self.assertEqual(normal_form([(0, 2), [0], (1, 2), [0, 0]]), [(0, 4), (1, 2), (0, 3)])

    def test_lists_that_cannot_be_split(self):
        for waits in [[1, 2], [1, 2, 2], [1, 2, 3, 1, 4], list(range(60)), list(range(9999))]:
            self.assertEqual(normal_form([waits]), [waits])
            self.assertEqual(normal_form([waits, waits]), [waits, waits])

    def test_lists_that_can_be_split(self):
        cases = [
            [(1, 2), (2, 2)],
            [(1, 2), (2, 3)],
            [(1, 3), (2, 2)],
            [[1, 2], (3, 2)],
            [(3, 2), [1, 2]],
            [[1, 2], [2, 1]],
            [[1, 2], [1, 2], [1, 2]],
            [(1, 2), (2, 2), (1, 2)],
            [(1, 4), (2, 2), (1, 3)],
            [(1, 3), [1, 2, 2], (1, 5)],
            [[1, 2, 3], (1, 6), [1, 2]],
            [(1, 2), [2, 3], (1, 4), (2, 2), [5, 6]],
            [(0, 2), (1, 2), (2, 2), (3, 2), (4, 2), (5, 2)],
            [[1, 2, 3, 4, 5], [1, 1, 2, 1, 2]],
        ]
        for nesting in cases:
            self.assertEqual(normal_form([flatten(nesting)]), nesting)
            self.assertEqual(normal_form([flatten(nesting[:1]), flatten(nesting[1:])]), nesting)
            self.assertEqual(normal_form(nesting), nesting)

    def test_parts_of_neighbouring_lists_are_merged(self):
        self.assertEqual(normal_form([[1, 2, 1], [2, 3, 2]]), [(1, 2), (2, 4), (3, 2)])
        self.assertEqual(normal_form([[2, 1, 2, 1, 2], (1, 5), [1, 1, 3, 1, 1]]), [(2, 2), (1, 45), (3, 2)])

    def test_constant_lists(self):
        for wait in [0, 7, HIGH]:
            for count in PRIMES + COMPOSITES:
                self.assertEqual(normal_form([[wait] * (count - 1)]), [(wait, count)])

    def test_short_nestings(self):
        for nesting in short_nestings(3):
            found = normal_form(nesting)
            self.assertTrue(is_normal(found))
            self.assertEqual(by_layers(found), by_layers(nesting))
            self.assertEqual(normal_form(found), found)

    def test_all_lists_of_few_waits(self):
        for waits in [*all_policies(2, 8), *all_policies(3, 5)]:
            found = normal_form([waits])
            self.assertTrue(is_normal(found))
            self.assertEqual(by_layers(found), waits)

    def test_all_ways_to_write_a_policy(self):
        forms = {}
        for nesting in short_nestings(3):
            found = normal_form(nesting)
            waits = by_layers(nesting)
            self.assertEqual(forms.setdefault(tuple(waits), found), found)
            self.assertEqual(normal_form([waits]), found)
        texts = [repr(found) for found in forms.values()]
        self.assertEqual(len(set(texts)), len(texts))

    def test_large_constant_layers(self):
        self.assertEqual(normal_form([(5, MANY)]), [(5, MANY)])
        self.assertEqual(normal_form([(5, MANY)] * 8), [(5, MANY ** 8)])
        self.assertEqual(normal_form([(5, MANY), (6, MANY)] * 4), [(5, MANY), (6, MANY)] * 4)
        self.assertEqual(
            normal_form([(5, MANY), [5, 5], [], (5, MANY - 1), [5, 6], (5, 1), (6, MANY), [6], (7, MANY)]),
            [(5, 3 * MANY * (MANY - 1)), [5, 6], (6, 2 * MANY), (7, MANY)],
        )

    def test_flat_lists_of_thousands_of_waits(self):
        for nesting in [
            [(1, 4), [2, 3], (1, 5), [4, 5, 6], (7, 2), [1, 1, 2], (1, 5)],
            [(1, 16), (2, 16), (1, 16), (2, 2)],
            [[1, 2, 3, 4], [4, 3, 2, 1], [1, 2, 3, 4], [4, 3, 2, 1], [0, 1]],
            [list(range(100)), list(range(98))],
            [(3, 2), list(range(4999))],
            [list(range(4999)), (3, 2)],
            [(3, 10000)],
            [(3, 9973)],
        ]:
            waits = flatten(nesting)
            self.assertGreater(len(waits), 1800)
            self.assertEqual(normal_form([waits]), nesting)
            self.assertEqual(normal_form([[1, 9], waits, [8, 9]]), [[1, 9]] + nesting + [[8, 9]])

    def test_nearly_constant_lists_of_thousands_of_waits(self):
        waits = [3] * 7559
        waits[3779] = 4
        self.assertEqual(normal_form([waits]), [(3, 3780), (4, 2)])
        waits[3779], waits[3780] = 3, 4
        self.assertEqual(normal_form([waits]), [waits])

    def test_results_are_passed_on(self):
        found = normal_form([(5, MANY), [1, 2, 1], (6, MANY)] * 8)
        for _ in range(3):
            longer = normal_form(found * 8)
            self.assertEqual(normal_form(longer), longer)
            self.assertEqual(attempts(longer), attempts(found) ** 8)
            found = longer

    def test_errors(self):
        self.check_layers(normal_form)


WAYS = [
    [[(4, 12), (5, 2)], [(4, 3), [4], [], [4, 5, 4]], [[4] * 11 + [5] + [4] * 11], [(4, 4), (4, 3), [5]]],
    [[], [[]], [(0, 1)], [(9, 1), []]],
    [[(0, 6)], [(0, 2), (0, 3)], [(0, 3), (0, 2)], [[0, 0], [0]], [[0] * 5]],
    [[[1, 2], (3, 4)], [[1, 2, 3, 1, 2], [3]], [[1, 2], [3], [3]], [[], [1, 2], (7, 1), [3, 3, 3]]],
    [
        [(5, MANY), [5, 6], (5, MANY), (5, MANY)],
        [(5, MANY), [5, 6], (5, MANY ** 2)],
        [(5, MANY // 9), [5] * 8, [5, 6], (5, MANY // 3), (5, 3 * MANY)],
        [(5, 3), (5, MANY // 9), (5, 3), [], [5, 6], (5, MANY), (0, 1), (5, MANY)],
    ],
    [[(5, MANY)], [(5, MANY // 3), (5, 3)], [[5, 5], (5, MANY // 3)], [(5, 3), (5, MANY // 9), (5, 3)]],
    [[(5, MANY - 1)]],
    [[(6, MANY)]],
]


class SamePolicy(Raising):
    def test_written_in_different_ways(self):
        for (place, ways), (other_place, other_ways) in itertools.product(enumerate(WAYS), repeat=2):
            for first, second in itertools.product(ways, other_ways):
                self.assertIs(same_policy(first, second), place == other_place)

    def test_short_nestings(self):
        policies = [(nesting, by_layers(nesting)) for nesting in short_nestings(2)]
        for (first, waits), (second, other_waits) in itertools.product(policies, repeat=2):
            self.assertIs(same_policy(first, second), waits == other_waits)

    def test_one_wait_is_changed(self):
        nesting = [[1, 2, 1], (3, 4), [5, 6]]
        waits = flatten(nesting)
        self.assertIs(same_policy(nesting, [waits]), True)
        for place in range(len(waits)):
            changed = list(waits)
            changed[place] = 9
            self.assertIs(same_policy(nesting, [changed]), False)
            self.assertIs(same_policy([changed], nesting), False)
        self.assertIs(same_policy(nesting, [[1, 2, 1], (3, 4), [5, 7]]), False)
        self.assertIs(same_policy(nesting, [[1, 2, 1], (4, 4), [5, 6]]), False)
        self.assertIs(same_policy(nesting, [[1, 2, 1], (3, 5), [5, 6]]), False)

    def test_layers_in_another_order(self):
        for one, other in itertools.combinations([[1], [2], [1, 2], [2, 1], (3, 4), (4, 3), (5, MANY)], 2):
            self.assertIs(same_policy([one, other], [other, one]), False)
        for one, other in itertools.combinations([[1], [1, 1], (1, 4), (1, 1), (1, MANY)], 2):
            self.assertIs(same_policy([one, other], [other, one]), True)

    def test_as_many_attempts(self):
        self.assertIs(same_policy([[1, 2]], [[2, 1]]), False)
        self.assertIs(same_policy([(1, MANY)], [(2, MANY)]), False)
        self.assertIs(same_policy([(1, 6)], [(1, 2), (2, 3)]), False)
        self.assertIs(same_policy([(1, MANY), (2, MANY)], [(1, MANY * MANY)]), False)

    def test_flattened_lists(self):
        nesting = [(1, 4), [2, 3], (1, 5), [4, 5, 6], (7, 2), [1, 1, 2], (1, 5)]
        waits = flatten(nesting)
        self.assertIs(same_policy([waits], nesting), True)
        self.assertIs(same_policy(nesting + [(7, MANY)], [waits, (7, MANY)]), True)
        waits[4321] += 1
        self.assertIs(same_policy([waits], nesting), False)

    def test_errors(self):
        self.check_layers_of_two(same_policy)


class Arguments(Keeping):
    def test_normal_form(self):
        for nesting in [[], [[]], [[1, 2]], [(3, 4)], [[1, 2, 1]], [[1, 2], (5, 1), [1, 2]], [(4, MANY), [4], [5, 6]]]:
            self.check_kept(normal_form, nesting)

    def test_one_list_as_several_layers(self):
        waits = [1, 2]
        self.check_kept(normal_form, [waits, waits, (3, 4), waits])

    def test_same_policy(self):
        for first, second in itertools.product([[], [[1, 2]], [(3, 4)], [[3], (3, 2)], [[1, 2, 1], []]], repeat=2):
            self.check_kept(same_policy, copy.deepcopy(first), copy.deepcopy(second))

    def test_results_are_lists_and_tuples(self):
        found = normal_form([LAYERS[2], [1, 2], [3, 3, 3]])
        self.assertEqual([type(layer) for layer in found], [tuple, list, tuple])
        self.assertEqual([type(number) for layer in found for number in layer], [int] * 6)


if __name__ == "__main__":
    unittest.main()
