"""Points [2] to [6], [9]: the class Runner."""

import copy
import inspect
import itertools
import random
import unittest
from unittest import mock

from helpers import (
    HIGH, INVALID, LAYERS, MANY, Raising, by_counting, by_layers, by_numbers, scramble, short_nestings, written_out,
)
from retrynest.errors import InvalidLayer, InvalidNumber, NoMoreAttempts
from retrynest.normal import normal_form
from retrynest.policies import flatten
from retrynest.powers import power
from retrynest.runners import Runner
from retrynest.times import time_of, wait_at

METHODS = {
    "attempt": ["self"], "time": ["self"], "left": ["self"], "next_wait": ["self"], "fail": ["self", "times"],
    "wrap": ["self", "layer"],
}

TRIVIAL = [[], [[]], [(5, 1)], [(0, 1), [], (3, 1)]]

INVALID_LAYERS = [
    [-1], [0, 5, -1], [-HIGH], [1] * 59 + [-1], (-1, 5), (-1, 1), (-HIGH, MANY), (0, 0), (3, 0), (3, -1), (3, -MANY),
    (-3, 0), (-3, -3),
]

# Each row has nestings that stand for one policy, written in different ways.
SAME = [
    [[], [[]], [(5, 1)], [(0, 1), [], (3, 1)]],
    [[(3, 6)], [[3] * 5], [(3, 2), (3, 3)], [[3, 3], [3]], [[3], (7, 1), (3, 3), []]],
    [[(3, 12)], [(3, 2), (3, 2), (3, 3)], [(3, 3), (3, 2), (3, 2)], [[3], [3], [3, 3]], [(3, 4), [3, 3]]],
    [[(1, 2), (2, 3)], [[1, 2, 1, 2, 1]], [[1], [2, 2]], [[], [1], (9, 1), (2, 3)]],
    [[[1, 2], (5, 3)], [[1, 2], [5, 5]], [[1, 2, 5, 1, 2, 5, 1, 2]], [[1, 2], (4, 1), (5, 3), []]],
    [[(4, 6), (5, 2)], [(4, 3), [4], [], [5]], [[4, 4], [4, 5, 4]], [[4] * 5 + [5] + [4] * 5]],
    [[(0, 4), [0, 1]], [[0], [0, 0, 0, 1, 0]], [(0, 2), (0, 2), [0, 1]], [[0] * 7 + [1] + [0] * 3]],
]


def state(runner):
    return [runner.attempt(), runner.time(), runner.left(), runner.next_wait()]


def flat_state(waits, attempt):
    """The values of a runner at an attempt, read off the flat list."""
    wait = waits[attempt] if attempt < len(waits) else None
    return [attempt, sum(waits[:attempt]), len(waits) - attempt, wait]


def runner_at(nesting, attempt):
    runner = Runner(nesting)
    runner.fail(attempt)
    return runner


class Interface(Raising):
    def test_parameters(self):
        self.assertEqual(list(inspect.signature(Runner).parameters), ["nesting"])
        for name, parameters in METHODS.items():
            self.assertEqual(list(inspect.signature(vars(Runner)[name]).parameters), parameters)
        self.assertEqual(inspect.signature(Runner.fail).parameters["times"].default, 1)

    def test_class_and_methods_are_defined_in_the_file(self):
        self.assertEqual(Runner.__module__, "retrynest.runners")
        for name in [*METHODS, "__init__", "__eq__"]:
            self.assertTrue(inspect.isfunction(vars(Runner)[name]))
            self.assertEqual(vars(Runner)[name].__module__, "retrynest.runners")

    def test_calls_by_name(self):
        runner = Runner(nesting=[(1, 3)])
        self.assertIsNone(runner.fail(times=2))
        self.assertIsNone(runner.wrap(layer=[10]))
        self.assertEqual(state(runner), [2, 2, 3, 10])
        self.check(InvalidLayer, 1, lambda: Runner(nesting=[[1], [-1]]))
        self.check(InvalidLayer, 0, lambda: runner.wrap(layer=(1, 0)))
        self.check(InvalidNumber, -1, lambda: runner.fail(times=-1))
        self.check(NoMoreAttempts, 3, lambda: runner.fail(times=4))

    def test_examples(self):
        runner = Runner([(1, 3)])
        self.assertIsNone(runner.fail(2))
        self.assertIsNone(runner.wrap([10]))
        self.assertIsNone(runner.fail())
        self.assertEqual([runner.attempt(), runner.time(), runner.next_wait(), runner.left()], [3, 12, 1, 2])


class Values(Raising):
    def check_every_attempt(self, nesting, waits):
        stepping = Runner(nesting)
        for attempt in range(len(waits) + 1):
            expected = flat_state(waits, attempt)
            self.assertEqual(state(stepping), expected)
            self.assertEqual(state(runner_at(nesting, attempt)), expected)
            if attempt < len(waits):
                self.assertIsNone(stepping.fail())
        self.check(NoMoreAttempts, 0, stepping.fail)
        self.assertEqual(state(stepping), flat_state(waits, len(waits)))

    def test_every_attempt_of_short_nestings(self):
        for nesting in short_nestings(2):
            self.check_every_attempt(nesting, by_layers(nesting))

    def test_every_attempt_of_other_nestings(self):
        for nesting in [
            [(0, 10), (5, 10), (60, 2)], [[1, 2, 1], (0, 3), [4, 0, 9]], [(3, 3), [], (9, 1), [3, 3], (7, 2), [0]],
            [[HIGH, 0], (HIGH, 2), [1], [0, HIGH]], [list(range(60)), (100, 3)], [[5], [0], [3], (0, 2), [1], (2, 2)],
        ]:
            self.check_every_attempt(nesting, by_layers(nesting))

    def test_first_and_last_attempt(self):
        runner = Runner([[1, 2], (5, 3)])
        self.assertEqual(state(runner), [0, 0, 8, 1])
        runner.fail(7)
        self.assertEqual(state(runner), [7, 1 + 2 + 5 + 1 + 2 + 5 + 1, 1, 2])
        runner.fail()
        self.assertEqual([runner.attempt(), runner.time(), runner.left()], [8, 19, 0])
        self.assertIsNone(runner.next_wait())

    def test_waits_of_nothing(self):
        runner = Runner([(0, 3)])
        self.assertEqual(state(runner), [0, 0, 2, 0])
        self.assertIs(type(runner.next_wait()), int)
        runner.fail(2)
        self.assertIsNone(runner.next_wait())

    def test_trivial_policy(self):
        for nesting in TRIVIAL:
            runner = Runner(nesting)
            self.assertEqual(state(runner), [0, 0, 0, None])
            self.assertIsNone(runner.fail(0))
            self.check(NoMoreAttempts, 0, runner.fail)
            self.check(NoMoreAttempts, 0, lambda: runner.fail(MANY))
            self.assertEqual(state(runner), [0, 0, 0, None])
            runner.wrap([4, 6])
            self.assertEqual(state(runner), [0, 0, 2, 4])
            runner.fail(2)
            self.assertEqual(state(runner), [2, 10, 0, None])

    def test_asking_changes_nothing(self):
        runner = runner_at([[1, 2], (5, 3)], 4)
        for _ in range(3):
            for method in [runner.attempt, runner.time, runner.left, runner.next_wait]:
                self.assertEqual(method(), method())
            self.assertEqual(state(runner), [4, 9, 4, 2])

    def test_results_are_integers(self):
        runner = runner_at([[1, 2], (5, 3)], 4)
        self.assertEqual([type(value) for value in state(runner)], [int] * 4)

    def test_two_runners_of_one_nesting(self):
        nesting = [[1, 2], (5, 3)]
        first, second = Runner(nesting), Runner(nesting)
        first.fail(4)
        first.wrap([9])
        self.assertEqual(state(first), [4, 9, 13, 2])
        self.assertEqual(state(second), [0, 0, 8, 1])


class Fail(Raising):
    def test_results(self):
        runner = Runner([(1, 10)])
        for call in [runner.fail, lambda: runner.fail(0), lambda: runner.fail(1), lambda: runner.fail(times=3)]:
            self.assertIsNone(call())
        self.assertEqual(runner.attempt(), 5)

    def test_nothing(self):
        for attempt in range(9):
            runner = runner_at([[1, 2], (5, 3)], attempt)
            before = state(runner)
            runner.fail(0)
            runner.fail(times=0)
            self.assertEqual(state(runner), before)

    def test_all_that_is_left_and_more(self):
        for nesting in [[], [[1, 2], (5, 3)], [(3, MANY)], [(3, MANY)] * 8]:
            for share in [0, 1, 2, 3]:
                runner = Runner(nesting)
                runner.fail(runner.left() * share // 3)
                left = runner.left()
                for more in [1, 2, MANY, 10 ** 199]:
                    self.check(NoMoreAttempts, left, lambda: runner.fail(left + more))
                attempt = runner.attempt()
                runner.fail(left)
                self.assertEqual([runner.attempt(), runner.left()], [attempt + left, 0])
                self.assertIsNone(runner.next_wait())

    def test_negative_numbers(self):
        for attempt in [0, 3, 8]:
            runner = runner_at([[1, 2], (5, 3)], attempt)
            for times in [-1, -2, -attempt, -attempt - 1, -10 ** 30]:
                if times < 0:
                    self.check(InvalidNumber, times, lambda: runner.fail(times))
                    self.check(InvalidNumber, times, lambda: runner.fail(times=times))
        for nesting in TRIVIAL:
            self.check(InvalidNumber, -1, lambda: Runner(nesting).fail(-1))

    def test_a_call_that_raises_changes_nothing(self):
        for nesting in [[], [[1, 2], (5, 3)], [(3, MANY)] * 8]:
            for attempt in {0, min(4, Runner(nesting).left()), Runner(nesting).left()}:
                runner = runner_at(nesting, attempt)
                before = state(runner)
                left = runner.left()
                for error, value, times in [
                    (InvalidNumber, -1, -1), (InvalidNumber, -attempt - 1, -attempt - 1),
                    (NoMoreAttempts, left, left + 1), (NoMoreAttempts, left, 10 ** 199),
                ]:
                    self.check(error, value, lambda: runner.fail(times))
                    self.assertEqual(state(runner), before)
                    self.assertEqual(runner, runner_at(nesting, attempt))


class Wrap(Raising):
    def test_every_layer_around_short_nestings(self):
        for nesting in short_nestings(1):
            waits = by_layers(nesting)
            for layer in [*LAYERS, [1] * 59, (HIGH, 7), [HIGH, 0], (0, 2)]:
                wrapped = by_numbers(waits, written_out(layer))
                for attempt in range(len(waits) + 1):
                    runner = runner_at(nesting, attempt)
                    self.assertIsNone(runner.wrap(layer))
                    self.assertEqual(state(runner), flat_state(wrapped, attempt))

    def test_the_layer_is_the_outermost_one(self):
        runner = Runner([[1, 2]])
        runner.wrap([3])
        runner.wrap([4])
        found = []
        while runner.left():
            found.append(runner.next_wait())
            runner.fail()
        self.assertEqual(found, [1, 2, 3, 1, 2, 4, 1, 2, 3, 1, 2])

    def test_trivial_layers_change_nothing(self):
        for attempt in [0, 4, 8]:
            runner = runner_at([[1, 2], (5, 3)], attempt)
            before = state(runner)
            for layer in [[], (0, 1), (5, 1), (HIGH, 1)]:
                self.assertIsNone(runner.wrap(layer))
                self.assertEqual(state(runner), before)

    def test_the_last_attempt_is_the_last_one_no_more(self):
        runner = runner_at([[1, 2]], 2)
        self.check(NoMoreAttempts, 0, runner.fail)
        runner.wrap((7, 2))
        self.assertEqual(state(runner), [2, 3, 3, 7])
        runner.fail()
        self.assertEqual(state(runner), [3, 10, 2, 1])

    def test_invalid_layers(self):
        for nesting in [[], [[1, 2], (5, 3)], [(3, MANY)] * 8]:
            for layer in INVALID_LAYERS:
                runner = runner_at(nesting, Runner(nesting).left() // 2)
                runner.wrap([8])
                before = state(runner)
                kept = copy.deepcopy(layer)
                self.check(InvalidLayer, 0, lambda: runner.wrap(layer))
                self.assertEqual(state(runner), before)
                self.assertEqual(layer, kept)
                same = runner_at([*nesting, [8]], before[0])
                self.assertEqual(runner, same)
                runner.wrap([9])
                same.wrap([9])
                self.assertEqual(state(runner), state(same))

    def test_several_invalid_layers_one_after_the_other(self):
        runner = Runner([[1], [2], [3]])
        for layer in INVALID_LAYERS:
            self.check(InvalidLayer, 0, lambda: runner.wrap(layer))
        self.assertEqual(runner, Runner([[1], [2], [3]]))


class Sequences(Raising):
    """Sequences of calls, compared with the flat list after every call."""

    def check_calls(self, nesting, calls):
        runner = Runner(nesting)
        waits = by_layers(nesting)
        attempt = 0
        self.assertEqual(state(runner), flat_state(waits, attempt))
        for call in calls:
            if isinstance(call, int):
                left = len(waits) - attempt
                if call < 0:
                    self.check(InvalidNumber, call, lambda: runner.fail(call))
                elif call > left:
                    self.check(NoMoreAttempts, left, lambda: runner.fail(call))
                else:
                    self.assertIsNone(runner.fail(call))
                    attempt += call
            elif (len(waits) + 1) * (len(written_out(call)) + 1) <= 3000:
                self.assertIsNone(runner.wrap(call))
                waits = by_numbers(waits, written_out(call))
            self.assertEqual(state(runner), flat_state(waits, attempt))
        self.assertEqual(runner, runner_at([waits], attempt))

    def test_all_short_sequences(self):
        steps = [0, 1, 2, 5, -1, [], [7], (1, 2), [1, 2], (4, 3)]
        for nesting in [[], [(1, 3)], [[1, 2], (1, 2)]]:
            for calls in itertools.product(steps, repeat=3):
                self.check_calls(nesting, calls)

    def test_long_sequences(self):
        chosen = random.Random(7)
        layers = [*LAYERS, (0, 2), (3, 3), [0, 3], [3, 3], (9, 1)]
        for _ in range(100):
            nesting = chosen.choices(layers, k=chosen.randrange(4))
            calls = chosen.choices([*layers, *[0, 1, 1, 2, 5, 17, -2] * 6], k=40)
            self.check_calls(nesting, calls)

    def test_two_hundred_calls(self):
        runner = Runner([])
        total = 1
        layer = list(range(60))
        for number in range(100):
            runner.wrap(layer if number % 2 else (number, MANY))
            total *= 61 if number % 2 else MANY
            runner.fail(total - 1 - runner.attempt())
            self.assertEqual([runner.attempt(), runner.left(), runner.next_wait()], [total - 1, 0, None])
        self.assertEqual(total, (61 * MANY) ** 50)

    def test_layers_with_one_wait_added_one_by_one(self):
        runner = Runner([(3, 2)])
        for number in range(199):
            runner.wrap([3] if number % 2 else (3, 2))
        self.assertEqual(runner, Runner([(3, 2 ** 200)]))
        self.assertEqual(state(runner), [0, 0, 2 ** 200 - 1, 3])


class Long(Raising):
    NESTINGS = [
        [(3, MANY)] * 8,
        [(0, MANY)] * 8,
        [(number, MANY - number) for number in range(8)],
        [(HIGH - number, MANY - 1) for number in range(8)],
        [(10 * number, MANY) for number in range(7, -1, -1)],
    ]

    def total(self, nesting):
        total = 1
        for _, count in nesting:
            total *= count
        return total

    def wait(self, nesting, number):
        """The wait with a number, as in point [5]."""
        for wait, count in nesting:
            if number % count != 0:
                return wait
            number //= count
        return None

    def test_attempts_far_apart(self):
        for nesting in self.NESTINGS:
            total = self.total(nesting)
            for attempt in [0, 1, MANY - 3, MANY, MANY ** 4 - 1, total // 2, 7 * total // 9, total - 2, total - 1]:
                runner = runner_at(nesting, attempt)
                left = total - 1 - attempt
                wait = self.wait(nesting, attempt + 1) if left else None
                self.assertEqual(state(runner), [attempt, by_counting(nesting, attempt), left, wait])
                self.check(NoMoreAttempts, left, lambda: runner.fail(left + 1))

    def test_one_attempt_more(self):
        for nesting in self.NESTINGS:
            runner = Runner(nesting)
            inside = 1
            for _, count in nesting:
                inside *= count
                runner.fail(inside - 1 - runner.attempt())
                for _ in range(3):
                    if runner.left() > 0:
                        time, wait = runner.time(), runner.next_wait()
                        self.assertEqual(wait, self.wait(nesting, runner.attempt() + 1))
                        runner.fail()
                        self.assertEqual(runner.time(), time + wait)
            self.assertEqual(state(runner), [inside - 1, by_counting(nesting, inside - 1), 0, None])

    def test_layers_added_one_by_one(self):
        for nesting in self.NESTINGS:
            runner = Runner([])
            attempt = 0
            inside = 1
            for place, (wait, count) in enumerate(nesting):
                runner.wrap((wait, count))
                inside *= count
                attempt += (inside - 1 - attempt) // 3
                runner.fail(attempt - runner.attempt())
                part = nesting[:place + 1]
                expected = [attempt, by_counting(part, attempt), inside - 1 - attempt, self.wait(part, attempt + 1)]
                self.assertEqual(state(runner), expected)
            self.assertEqual(runner, runner_at(nesting, attempt))

    def test_lists_within_large_layers(self):
        nesting = [(9, MANY), [4, 5, 6], (8, MANY), [1], (0, MANY), [], [2, 3], (7, MANY)]
        total = 4 * 2 * 3 * MANY ** 4
        for attempt in [0, 3 * MANY - 1, 4 * MANY - 1, 4 * MANY ** 2 - 1, total // 3 - 1, total - 2]:
            runner = runner_at(nesting, attempt)
            expected = [attempt, time_of(nesting, attempt), total - 1 - attempt, wait_at(nesting, attempt + 1)]
            self.assertEqual(state(runner), expected)

    def test_flattened_lists_and_powers(self):
        waits = flatten([(1, 100), [number % 7 for number in range(99)]])
        runner = runner_at([waits], 4321)
        self.assertEqual(state(runner), flat_state(waits, 4321))
        runner.wrap(waits)
        self.assertEqual(state(runner), [4321, sum(waits[:4321]), 10 ** 8 - 4322, waits[4321]])
        self.assertEqual(runner, runner_at([(1, 100), list(normal_form([waits])[1])] * 2, 4321))
        nesting = power(power([(1, MANY), [2, 3], (4, 5)], 8), 8)
        runner = Runner(nesting)
        self.assertEqual(runner.left(), (15 * MANY) ** 64 - 1)
        runner.fail(runner.left() // 2)
        self.assertEqual(runner.time(), time_of(nesting, runner.attempt()))


class NestingErrors(Raising):
    def test_invalid_nestings(self):
        self.check_layers(Runner)
        for index, nesting in INVALID:
            self.check(InvalidLayer, index, lambda: Runner(nesting=nesting))


class Other:
    """Is equal to nothing, and leaves it to the other side to say so."""

    def __eq__(self, other):
        return NotImplemented


class LooksAlike:
    """Has the methods and attributes of a runner, but is none."""

    def __init__(self, runner):
        vars(self).update(vars(runner))
        for name in ["attempt", "time", "left", "next_wait"]:
            setattr(self, name, getattr(runner, name))


class Equality(unittest.TestCase):
    def check_equal(self, first, second, expected):
        for one, other in [(first, second), (second, first)]:
            self.assertIs(one == other, expected)
            self.assertIs(one != other, not expected)

    def test_one_policy_in_different_ways(self):
        for row in SAME:
            left = Runner(row[0]).left()
            for first, second in itertools.product(row, repeat=2):
                for attempt in range(left + 1):
                    self.check_equal(runner_at(first, attempt), runner_at(second, attempt), True)

    def test_another_attempt(self):
        for row in SAME:
            left = Runner(row[0]).left()
            for first, second in itertools.product(row, repeat=2):
                for attempt, other in itertools.combinations(range(left + 1), 2):
                    self.check_equal(runner_at(first, attempt), runner_at(second, other), False)

    def test_other_policies(self):
        for row, other_row in itertools.combinations(SAME, 2):
            for first, second in itertools.product(row, other_row):
                self.check_equal(Runner(first), Runner(second), False)

    def test_other_policies_with_as_many_attempts(self):
        for first, second in [
            ([(3, 6)], [(4, 6)]), ([(1, 2), (2, 3)], [(2, 3), (1, 2)]), ([(1, 2), (2, 3)], [(1, 3), (2, 2)]),
            ([[1, 2]], [[2, 1]]), ([[1, 2]], [(1, 3)]), ([[1, 1, 2]], [[1], [1]]), ([(3, MANY)], [(4, MANY)]),
            ([(3, MANY), (4, MANY)], [(4, MANY), (3, MANY)]), ([(3, MANY)] * 8, [(3, MANY)] * 7 + [(2, MANY)]),
        ]:
            for attempt in [0, 1, 2]:
                self.check_equal(runner_at(first, attempt), runner_at(second, attempt), False)

    def test_as_many_attempts_left(self):
        self.check_equal(runner_at([(3, 6)], 1), runner_at([(3, 5)], 0), False)
        self.check_equal(runner_at([(3, 6)], 5), runner_at([(3, 5)], 4), False)
        self.check_equal(Runner([(3, MANY)]), Runner([(3, MANY - 1)]), False)

    def test_as_in_the_flat_lists(self):
        nestings = list(short_nestings(2))[::3]
        pairs = [(Runner(nesting), by_layers(nesting)) for nesting in nestings]
        for (first, waits), (second, other_waits) in itertools.product(pairs, repeat=2):
            self.assertIs(first == second, waits == other_waits)
            self.assertIs(first != second, waits != other_waits)

    def test_layers_added_by_wrap(self):
        for row in SAME:
            for nesting in row:
                for place in range(len(nesting) + 1):
                    runner = Runner(nesting[:place])
                    attempt = runner.left()
                    runner.fail(attempt)
                    for layer in nesting[place:]:
                        runner.wrap(layer)
                    for other in row:
                        self.check_equal(runner, runner_at(other, attempt), True)

    def test_different_after_wrap_and_fail(self):
        first, second = Runner([[1, 2]]), Runner([[1, 2]])
        first.wrap([3])
        self.check_equal(first, second, False)
        second.wrap((3, 2))
        self.check_equal(first, second, True)
        first.fail(2)
        self.check_equal(first, second, False)
        second.fail()
        second.fail()
        self.check_equal(first, second, True)
        first.wrap([])
        self.check_equal(first, second, True)

    def test_calls_in_another_order(self):
        first, second = Runner([[1, 2]]), Runner([[1, 2]])
        first.fail(2)
        first.wrap((3, 4))
        second.wrap([3])
        second.fail(2)
        second.wrap([3])
        self.check_equal(first, second, True)

    def test_itself_and_copies(self):
        for nesting in [[], [[1, 2], (5, 3)], [(3, MANY)] * 8]:
            runner = Runner(nesting)
            self.check_equal(runner, runner, True)
            self.check_equal(runner, copy.deepcopy(runner), True)

    def test_large_layers_in_different_ways(self):
        first = runner_at([(3, MANY)] * 8, 10 ** 100)
        self.check_equal(first, runner_at([(3, MANY ** 8)], 10 ** 100), True)
        self.check_equal(first, runner_at([(3, MANY ** 8)], 10 ** 100 + 1), False)
        self.check_equal(first, runner_at([(3, MANY ** 8 - 1)], 10 ** 100), False)

    def test_anything_else(self):
        for nesting in [[], [(1, 3)], [[1, 2], (5, 3)]]:
            runner = Runner(nesting)
            for other in [
                None, 0, 1, "", "none", b"", [], [[]], nesting, normal_form(nesting), by_layers(nesting), (),
                (nesting, 0), [nesting, 0], {}, set(), object(), Other(), Runner, LooksAlike(runner), state(runner),
                runner.attempt, vars(runner), ValueError(1), 0.5,
            ]:
                with self.subTest(other=other):
                    self.check_equal(runner, other, False)

    def test_something_that_is_equal_to_everything(self):
        self.assertIs(Runner([]) == mock.ANY, False)
        self.assertIs(Runner([]) != mock.ANY, True)

    def test_runners_in_lists(self):
        runners = [Runner([[1, 2]]), runner_at([[1, 2]], 1), None, Runner([(1, 3)])]
        self.assertEqual(runners.index(Runner([(1, 3)])), 3)
        self.assertNotIn(Runner([(1, 2)]), runners)


class Arguments(Raising):
    def test_the_nesting_is_changed_in_place(self):
        for nesting in [[[1, 2], (5, 3)], [[1, 2, 1], [4]], [[]], [[3, 3], [5, 6], [], [7]], [[1, 2]]]:
            kept = copy.deepcopy(nesting)
            waits = by_layers(nesting)
            runner = Runner(nesting)
            self.assertEqual(nesting, kept)
            scramble(nesting)
            nesting.append([-1])
            self.assertEqual(state(runner), flat_state(waits, 0))
            self.assertEqual(runner, Runner(kept))
            runner.fail(len(waits))
            self.assertEqual(state(runner), flat_state(waits, len(waits)))
            nesting.clear()
            self.assertEqual(runner, runner_at(kept, len(waits)))

    def test_the_layer_is_changed_in_place(self):
        for layer in [[], [7], [1, 2], [3, 4, 3], [1, 1]]:
            kept = list(layer)
            runner = runner_at([[1, 2]], 2)
            runner.wrap(layer)
            self.assertEqual(layer, kept)
            scramble(layer)
            waits = by_numbers([1, 2], kept)
            self.assertEqual(state(runner), flat_state(waits, 2))
            layer.clear()
            layer.append(-1)
            runner.wrap([8])
            self.assertEqual(state(runner), flat_state(by_numbers(waits, [8]), 2))
            self.assertEqual(runner, runner_at([[1, 2], kept, [8]], 2))

    def test_the_runner_leaves_its_arguments(self):
        nesting = [[1, 2], (5, 3), [], [1, 2, 1]]
        layer = [4, 5, 4]
        kept = copy.deepcopy([nesting, layer])
        runner = Runner(nesting)
        for _ in range(5):
            runner.fail(3)
            runner.wrap(layer)
            state(runner)
            self.assertEqual([nesting, layer], kept)

    def test_one_layer_in_two_runners(self):
        layer = [4, 5]
        first, second = Runner([layer]), Runner([[1], layer])
        first.wrap(layer)
        second.wrap(layer)
        first.wrap([1])
        layer[0] = 9
        self.assertEqual(first, Runner([[4, 5], [4, 5], [1]]))
        self.assertEqual(second, Runner([[1], [4, 5], [4, 5]]))

    def test_failing_calls_leave_their_arguments(self):
        runner = Runner([[1, 2]])
        for layer in INVALID_LAYERS:
            kept = copy.deepcopy(layer)
            self.check(InvalidLayer, 0, lambda: runner.wrap(layer))
            self.assertEqual(layer, kept)


if __name__ == "__main__":
    unittest.main()
