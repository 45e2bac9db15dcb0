"""Points [2], [5] to [10]: power, root and commute."""

import inspect
import itertools
import unittest

from helpers import HIGH, MANY, Keeping, Raising, by_layers, by_numbers, is_normal, short_nestings
from retrynest.errors import InvalidLayer, InvalidNumber
from retrynest.normal import normal_form, same_policy
from retrynest.policies import attempts, flatten
from retrynest.powers import commute, power, root

NESTINGS = [
    [],
    [[], (3, 1)],
    [(5, 2)],
    [[5], (5, 3)],
    [(5, MANY)],
    [[1, 2]],
    [[1, 2, 1]],
    [(1, 2), (2, 2)],
    [(1, 2), [2, 3], (1, 3)],
    [[1, 1], [2, 3], (1, 3), [1]],
    [(1, 2), [2, 3], (2, 3)],
    [[2, 3], (1, 4), [2, 3]],
    [[2, 3], (1, 4), [3, 2], (1, 2)],
    [(1, 2), (2, 2), (1, 2), (2, 2), (1, 3)],
    [(0, MANY), (1, MANY), (0, MANY), (1, MANY)],
    [(0, MANY), (1, MANY), [HIGH, 0], (0, MANY)],
]


def flat_power(waits, times):
    found = []
    for _ in range(times):
        found = by_numbers(found, waits)
    return found


def flat_root(waits, times):
    """The policy whose power this is, or None; on flat lists."""
    for count in range(1, len(waits) + 2):
        if count ** times == len(waits) + 1 and flat_power(waits[:count - 1], times) == waits:
            return waits[:count - 1]
    return None


class Interface(Raising):
    def test_parameters(self):
        self.assertEqual(list(inspect.signature(power).parameters), ["nesting", "times"])
        self.assertEqual(list(inspect.signature(root).parameters), ["nesting", "times"])
        self.assertEqual(list(inspect.signature(commute).parameters), ["first", "second"])

    def test_functions_are_defined_in_the_file(self):
        for function in [power, root, commute]:
            self.assertEqual(function.__module__, "retrynest.powers")

    def test_calls_by_name(self):
        self.assertEqual(power(times=2, nesting=[[1]]), [(1, 4)])
        self.assertEqual(root(times=2, nesting=[(1, 4)]), [(1, 2)])
        self.assertIs(commute(second=[[1]], first=[(1, 4)]), True)
        self.check(InvalidLayer, 1, lambda: commute(second=[[-1]], first=[[], [-1]]))

    def test_examples(self):
        self.assertEqual(
            [power([(1, 2), [2, 3], (1, 3)], 2), root([(7, 16)], 2), root([(7, 2)], 2)],
            [[(1, 2), [2, 3], (1, 6), [2, 3], (1, 3)], [(7, 4)], None],
        )
        self.assertEqual([commute([(3, 4)], [[3, 3]]), commute([(3, 2)], [(4, 2)])], [True, False])


class Power(Raising):
    def test_no_times_and_once(self):
        for nesting in NESTINGS:
            self.assertEqual(power(nesting, 0), [])
            self.assertEqual(power(nesting, 1), normal_form(nesting))

    def test_written_out_cases(self):
        cases = [
            ([(5, 3)], 4, [(5, 81)]),
            ([[5, 5]], 2, [(5, 9)]),
            ([[1, 2]], 3, [[1, 2], [1, 2], [1, 2]]),
            ([(1, 2), (2, 3)], 2, [(1, 2), (2, 3), (1, 2), (2, 3)]),
            ([[1, 2, 1]], 3, [(1, 2), (2, 2), (1, 2), (2, 2), (1, 2), (2, 2)]),
            ([[1, 2], (3, 2)], 2, [[1, 2], (3, 2), [1, 2], (3, 2)]),
            ([(3, 2), [1, 2], (3, 5)], 3, [(3, 2), [1, 2], (3, 10), [1, 2], (3, 10), [1, 2], (3, 5)]),
            ([(5, MANY)], 8, [(5, MANY ** 8)]),
            ([(5, 2), (6, MANY), (5, MANY)], 3, [(5, 2), (6, MANY), *[(5, 2 * MANY), (6, MANY)] * 2, (5, MANY)]),
        ]
        for nesting, times, expected in cases:
            self.assertEqual(power(nesting, times), expected)

    def test_trivial_policy(self):
        for times in range(9):
            for nesting in [[], [[]], [(5, 1), [], (4, 1)]]:
                self.assertEqual(power(nesting, times), [])

    def test_up_to_eight_times(self):
        for nesting in NESTINGS:
            for times in range(2, 9):
                found = power(nesting, times)
                self.assertTrue(is_normal(found))
                self.assertEqual(attempts(found), attempts(nesting) ** times)
                self.assertEqual(found, normal_form(nesting * times))

    def test_compared_with_flat_lists(self):
        for nesting in short_nestings(2):
            waits = by_layers(nesting)
            for times in range(5):
                if (len(waits) + 1) ** times <= 300:
                    found = power(nesting, times)
                    self.assertTrue(is_normal(found))
                    self.assertEqual(by_layers(found), flat_power(waits, times))

    def test_flattened_lists(self):
        nesting = [(1, 4), [2, 3], (1, 5), [4, 5, 6], (7, 2), [1, 1, 2], (1, 5)]
        expected = nesting[:-1] + [(1, 20)] + nesting[1:-1] + [(1, 20)] + nesting[1:]
        self.assertEqual(power([flatten(nesting)], 3), expected)
        waits = list(range(9999))
        self.assertEqual(power([waits], 8), [waits] * 8)

    def test_powers_of_powers(self):
        for nesting in NESTINGS:
            found = power(power(nesting, 8), 8)
            self.assertEqual(found, power(power(power(nesting, 4), 4), 4))
            self.assertEqual(attempts(found), attempts(nesting) ** 64)

    def test_negative_numbers(self):
        for nesting in NESTINGS:
            for times in [-1, -2, -8, -10 ** 30]:
                self.check(InvalidNumber, times, lambda: power(nesting, times))

    def test_errors_of_the_nesting(self):
        for times in [0, 1, 2, 8, -1]:
            self.check_layers(lambda nesting: power(nesting, times))


class Root(Raising):
    def test_root_of_a_power(self):
        for nesting in NESTINGS:
            for times in range(1, 9):
                self.assertEqual(root(power(nesting, times), times), normal_form(nesting))
                self.assertEqual(root(nesting * times, times), normal_form(nesting))

    def test_once(self):
        for nesting in NESTINGS:
            self.assertEqual(root(nesting, 1), normal_form(nesting))

    def test_trivial_policy(self):
        for nesting in [[], [[]], [(5, 1), [], (4, 1)]]:
            for times in range(1, 9):
                self.assertEqual(root(nesting, times), [])

    def test_roots_of_other_numbers(self):
        for times, smaller in [(4, 2), (6, 2), (6, 3), (8, 2), (8, 4)]:
            for nesting in NESTINGS:
                found = root(power(nesting, times), smaller)
                self.assertEqual(found, power(nesting, times // smaller))

    def test_no_root(self):
        for nesting in [
            [(7, 2)], [(7, 15)], [[1, 2]], [(1, 2), (2, 2)], [(1, 4), (2, 4)], [(1, 4), [2, 3], (1, 4)],
            [(1, 2), [2, 3], (1, 6), [2, 3], (1, 2)], [(1, 2), [2, 3], (1, 6), [2, 4], (1, 3)],
            [(1, 2), [2, 3], (1, 6), [3, 2], (1, 3)], [(1, 2), [2, 3], (1, 5), [2, 3], (1, 3)],
            [(1, 2), [2, 3], (4, 6), [2, 3], (1, 3)], [(1, 2), [2, 3], (1, 6), [2, 3], (4, 3)],
            [[1, 2], (3, 4), [1, 2]], [[1, 2], [1, 3]], [[1, 2], [1, 2], [1, 2], [1, 2, 2]],
            [(1, 2), (2, 6), (1, 2)], [(1, 3), (2, 2), (1, 3), (2, 3)], [(1, 3), (2, 2), (1, 2), (2, 2)],
            [(1, 2), (2, 2), (1, 4), (2, 2), (1, 4), (2, 2)],
        ]:
            for times in range(2, 9):
                self.assertIsNone(root(nesting, times))

    def test_other_numbers_of_times(self):
        nesting = power([(1, 2), [2, 3], (1, 3)], 4)
        self.assertEqual(root(nesting, 4), [(1, 2), [2, 3], (1, 3)])
        for times in [3, 5, 6, 7, 8, 9, 100, 10 ** 30]:
            self.assertIsNone(root(nesting, times))
        for times in [3, 4, 5, 6, 7, 8, 9, 100, 10 ** 30]:
            self.assertIsNone(root([[1, 2]], times))
            self.assertIsNone(root([[1, 2], [1, 2]], times))
            self.assertIsNone(root([(1, 4), (2, 2)], times))

    def test_constant_layers(self):
        for count in range(2, 1300):
            for times in range(2, 9):
                exact = [number for number in range(2, 37) if number ** times == count]
                expected = [(7, exact[0])] if exact else None
                self.assertEqual(root([(7, count)], times), expected)

    def test_large_constant_layers(self):
        for base in [2, 3, 10, 36, 37, 2 ** 61 - 1, 2 ** 64, 10 ** 19, MANY - 1, MANY]:
            for times in range(2, 9):
                count = base ** times
                self.assertEqual(root([(0, count)], times), [(0, base)])
                self.assertIsNone(root([(0, count + 1)], times))
                if count > 4:
                    self.assertEqual(root([(0, count - 1)], times), None)

    def test_large_layers_written_in_another_way(self):
        self.assertEqual(root([(7, MANY)] * 8, 8), [(7, MANY)])
        self.assertEqual(root([(7, MANY)] * 8, 4), [(7, MANY ** 2)])
        self.assertEqual(root([(7, MANY)] * 8, 2), [(7, MANY ** 4)])
        for times in [3, 5, 6, 7]:
            self.assertIsNone(root([(7, MANY)] * 8, times))
        for change in [-2, -1, 1, 2]:
            for times in range(2, 9):
                self.assertIsNone(root([(7, MANY ** 8 + change)], times))
        self.assertEqual(root([[7] * 26, (7, 27)], 6), [(7, 3)])
        self.assertIsNone(root([(7, MANY)] * 7 + [(7, MANY - 1)], 8))
        self.assertIsNone(root([(7, MANY)] * 7 + [(8, MANY)], 8))

    def test_many_times_of_a_constant_layer(self):
        for times in [9, 20, 65, 66, 67, 100, 531, 532, 533, 10 ** 30]:
            self.assertIsNone(root([(7, MANY)], times))
            self.assertIsNone(root([(7, MANY ** 8)], times))
        self.assertEqual(root([(7, 2 ** 500)], 500), [(7, 2)])
        self.assertEqual(root([(7, 2 ** 500)], 250), [(7, 4)])

    def test_compared_with_flat_lists(self):
        policies = [by_layers(nesting) for nesting in short_nestings(2)]
        policies += [flat_power(waits, 2) for waits in policies if len(waits) < 12]
        policies += [flat_power(waits, 3) for waits in policies if len(waits) < 5]
        for waits in policies:
            for times in range(1, 6):
                found = root([waits], times)
                expected = flat_root(waits, times)
                if expected is None:
                    self.assertIsNone(found)
                else:
                    self.assertTrue(is_normal(found))
                    self.assertEqual(by_layers(found), expected)

    def test_power_of_a_root(self):
        for nesting in [[(7, 64)], [[1, 2, 1, 3, 1, 2, 1]], [[1, 2, 1], [1, 2, 1]], [(7, MANY)] * 6]:
            for times in range(1, 9):
                found = root(nesting, times)
                if found is not None:
                    self.assertIs(same_policy(power(found, times), nesting), True)

    def test_flattened_lists(self):
        for nesting in [[(1, 4), [2, 3], (1, 5)], [list(range(99))], [(3, 100)], [[1, 2, 3], (4, 25)]]:
            waits = flatten(nesting * 2)
            self.assertEqual(root([waits], 2), nesting)
            waits[-1] += 1
            self.assertIsNone(root([waits], 2))

    def test_powers_are_passed_on(self):
        for nesting in NESTINGS:
            found = power(power(nesting, 8), 8)
            self.assertEqual(root(root(found, 8), 8), normal_form(nesting))
            self.assertEqual(root(found, 64), normal_form(nesting))

    def test_numbers_below_one(self):
        for nesting in NESTINGS:
            for times in [0, -1, -2, -10 ** 30]:
                self.check(InvalidNumber, times, lambda: root(nesting, times))

    def test_errors_of_the_nesting(self):
        for times in [1, 2, 8, 0, -1]:
            self.check_layers(lambda nesting: root(nesting, times))


class Commute(Raising):
    def check_both_ways(self, first, second, expected):
        self.assertIs(commute(first, second), expected)
        self.assertIs(commute(second, first), expected)

    def test_one_is_trivial(self):
        for nesting in NESTINGS:
            for trivial in [[], [[]], [(5, 1), (6, 1)]]:
                self.check_both_ways(nesting, trivial, True)

    def test_both_are_constant(self):
        ways = [[(3, 4)], [[3, 3]], [(3, MANY)], [[3], (3, 2)], [(3, 5)]]
        for first, second in itertools.product(ways, repeat=2):
            self.check_both_ways(first, second, True)
        for nesting in ways:
            for other in [[(4, 4)], [[4, 4]], [(4, MANY)], [(0, 2)], [(3, 2), (4, 2)], [[3, 4]], [[3, 3, 4]]]:
                self.check_both_ways(nesting, other, False)

    def test_powers_of_one_policy(self):
        for nesting in NESTINGS:
            for times, other_times in itertools.product([1, 2, 3, 8], repeat=2):
                self.check_both_ways(power(nesting, times), nesting * other_times, True)

    def test_others(self):
        for first, second in [
            ([[1, 2]], [[2, 1]]),
            ([[1, 2]], [[1, 2], [2, 1]]),
            ([(1, 2), (2, 2)], [(2, 2), (1, 2)]),
            ([(1, 2), (2, 2)], [(1, 2)]),
            ([(1, 2), [2, 3], (1, 3)], [(1, 3), [2, 3], (1, 2)]),
            ([(1, 2), [2, 3], (1, 3)], [(1, 2), [2, 3], (1, 4)]),
            ([(1, 2), [2, 3], (1, 3)], [(1, 6)]),
            ([(1, 2), [2, 3], (1, 3)], [(1, 6), [2, 3]]),
            ([(5, MANY), [5, 6]], [(5, MANY)]),
            ([(5, MANY), (6, MANY)], [(6, MANY), (5, MANY)]),
            ([(5, MANY), (6, MANY)], [(5, MANY), (6, MANY - 1)]),
        ]:
            self.check_both_ways(first, second, False)

    def test_compared_with_nesting(self):
        policies = {tuple(by_layers(nesting)): nesting for nesting in short_nestings(2)}
        short = [(list(waits), nesting) for waits, nesting in policies.items() if len(waits) < 9]
        for (waits, first), (other_waits, second) in itertools.product(short, repeat=2):
            expected = by_numbers(waits, other_waits) == by_numbers(other_waits, waits)
            self.assertIs(commute(first, second), expected)

    def test_flattened_lists(self):
        nesting = [(1, 4), [2, 3], (1, 5)]
        waits = flatten(nesting * 2)
        self.check_both_ways([waits], nesting, True)
        self.check_both_ways([waits], nesting * 3, True)
        waits[5] += 1
        self.check_both_ways([waits], nesting, False)
        self.check_both_ways([flatten([(3, 9998)])], [(3, MANY)], True)

    def test_errors(self):
        self.check_layers_of_two(commute)


class Arguments(Keeping):
    def test_power(self):
        for times in [0, 1, 2, 8]:
            for nesting in [[], [[1, 2]], [[1, 2], (3, 4)], [(3, MANY)], [[4], [1, 2], (4, 3)], [[1, 2, 1], []]]:
                self.check_kept(lambda argument: power(argument, times), nesting)

    def test_root(self):
        for times in [1, 2, 4]:
            for nesting in [[], [(3, 16)], [[1, 2]] * 4, [[1, 2], (3, 4)] * 4, [(3, 2), [1, 2], (3, 2)] * 2, [[7], []]]:
                self.check_kept(lambda argument: root(argument, times), nesting)

    def test_commute(self):
        for second in [[], [[1, 2]], [[1, 2], (3, 4)], [(3, 4), [1, 2]], [[1, 2], (3, 4), [1, 2], (3, 4)]]:
            self.check_kept(commute, [[1, 2], (3, 4)], second)

    def test_failing_calls_leave_their_arguments(self):
        for call, times in [(power, -1), (root, 0), (root, -1)]:
            nesting = [[1, 2, 1], (3, 2), []]
            self.check(InvalidNumber, times, lambda: call(nesting, times))
            self.assertEqual(nesting, [[1, 2, 1], (3, 2), []])


if __name__ == "__main__":
    unittest.main()
