"""Points [2], [4], [5], [6]: wait_at, time_of and first_attempt_from."""

import inspect
import itertools
import unittest

from helpers import HIGH, MANY, Keeping, Raising, by_counting, by_layers, short_nestings, times_of, written_out
from retrynest.errors import InvalidNumber
from retrynest.normal import normal_form
from retrynest.policies import attempts, flatten
from retrynest.times import first_attempt_from, time_of, wait_at

MIXED = [
    [(0, 10), (5, 10), (60, 4)],
    [[1, 2, 1], (0, 3), [4, 0, 9]],
    [(3, 3), [], (9, 1), [3, 3], (7, 2), [0]],
    [[0, 0, 5], (0, 4), [0, 1]],
    [[HIGH, 0], (HIGH, 2), [1], [0, HIGH]],
    [[5], [0], [3], (0, 2), [1], (2, 2), [0], [4]],
    [list(range(60)), (100, 5)],
    [(100, 5), list(range(60))],
    [(0, 30), [0, 0]],
]

LARGE = [
    [(3, MANY)],
    [(0, MANY)] * 8,
    [(3, MANY)] * 8,
    [(number, MANY - number) for number in range(8)],
    [(10 * number, MANY - number) for number in range(7, -1, -1)],
    [(HIGH - number, MANY) for number in range(8)],
    [(0, MANY), (1, MANY), (0, MANY), (2, 3), (0, MANY), [0, 7, 0], (1, MANY), (0, 2)],
    [list(range(60)), (5, MANY), [3, 0], (0, MANY), [9] * 60, [1], [], (8, MANY)],
]


def first_from(times, time):
    """The first attempt whose time is at least `time`, as the interface says it."""
    for attempt, found in enumerate(times):
        if found >= time:
            return attempt
    return None


def some_numbers(nesting, total):
    """Numbers from 0 to below the total, most of them beside where a layer ends."""
    inside = 1
    found = {0, total // 2, total // 3, 7 * total // 9}
    for layer in nesting:
        count = len(written_out(layer)) + 1 if isinstance(layer, list) else layer[1]
        inside *= count
        for number in [inside, 2 * inside, inside * (total // inside // 2), total - inside]:
            found.update([number - 1, number, number + 1])
    return sorted(number for number in found if 0 <= number < total)


class Interface(Raising):
    def test_parameters(self):
        self.assertEqual(list(inspect.signature(wait_at).parameters), ["nesting", "index"])
        self.assertEqual(list(inspect.signature(time_of).parameters), ["nesting", "attempt"])
        self.assertEqual(list(inspect.signature(first_attempt_from).parameters), ["nesting", "time"])

    def test_functions_are_defined_in_the_file(self):
        for function in [wait_at, time_of, first_attempt_from]:
            self.assertEqual(function.__module__, "retrynest.times")

    def test_calls_by_name(self):
        self.assertEqual(wait_at(index=2, nesting=[[1, 5]]), 5)
        self.assertEqual(time_of(attempt=2, nesting=[[1, 5]]), 6)
        self.assertEqual(first_attempt_from(time=2, nesting=[[1, 5]]), 2)
        self.assertEqual(wait_at([[1, 5]], index=2), 5)

    def test_examples(self):
        nesting = [(0, 10), (5, 10), (60, 10 ** 19)]
        self.assertEqual(
            [
                wait_at(nesting, 31), wait_at(nesting, 30), wait_at(nesting, 1000), time_of(nesting, 1234),
                first_attempt_from(nesting, 1271),
            ],
            [0, 5, 60, 1275, 1230],
        )


class WaitAt(Raising):
    def check_every_number(self, nesting, waits):
        for index, wait in enumerate(waits, start=1):
            self.assertEqual(wait_at(nesting, index), wait)
        for index in [0, -1, -len(waits) - 1, len(waits) + 1, len(waits) + 2, 2 * len(waits) + 3]:
            self.check(InvalidNumber, index, lambda: wait_at(nesting, index))

    def test_every_number_of_short_nestings(self):
        for nesting in short_nestings(3):
            self.check_every_number(nesting, by_layers(nesting))

    def test_every_number_of_mixed_nestings(self):
        for nesting in MIXED:
            self.check_every_number(nesting, by_layers(nesting))

    def test_trivial_policy(self):
        for nesting in [[], [[]], [(5, 1)], [(0, 1), [], (3, 1)]]:
            for index in [0, 1, -1, 2, 10 ** 200 - 1, -10 ** 200]:
                self.check(InvalidNumber, index, lambda: wait_at(nesting, index))

    def test_large_nestings(self):
        nesting = [(number, MANY) for number in range(8)]
        for number in range(8):
            for times in [1, 2, MANY - 1, MANY + 1]:
                if number < 7 or times < MANY:
                    self.assertEqual(wait_at(nesting, times * MANY ** number), number)
        self.assertEqual(wait_at(nesting, MANY ** 8 - 1), 0)
        self.assertEqual(wait_at(nesting, 5 * MANY ** 7 + 3 * MANY ** 4), 4)
        for index in [0, -1, MANY ** 8, MANY ** 8 + 1, 2 * MANY ** 8 + MANY, 10 ** 200 - 1, -10 ** 199]:
            self.check(InvalidNumber, index, lambda: wait_at(nesting, index))

    def test_list_within_large_layers(self):
        nesting = [(9, MANY), [4, 5, 6], (8, MANY)]
        for round_number in [0, 1, MANY - 1]:
            start = 4 * MANY * round_number
            self.assertEqual([wait_at(nesting, start + MANY * place) for place in [1, 2, 3]], [4, 5, 6])
            self.assertEqual([wait_at(nesting, start + MANY * place + 1) for place in range(4)], [9] * 4)
        self.assertEqual([wait_at(nesting, 4 * MANY * number) for number in [1, 2, MANY - 1]], [8] * 3)

    def test_errors_of_the_nesting(self):
        for index in [1, 0, -1, 10 ** 199]:
            self.check_layers(lambda nesting: wait_at(nesting, index))


class TimeOf(Raising):
    def check_every_number(self, nesting, waits):
        for attempt, time in enumerate(times_of(waits)):
            self.assertEqual(time_of(nesting, attempt), time)
        for attempt in [-1, -2, -len(waits) - 1, len(waits) + 1, len(waits) + 2, 3 * len(waits) + 3]:
            self.check(InvalidNumber, attempt, lambda: time_of(nesting, attempt))

    def test_every_number_of_short_nestings(self):
        for nesting in short_nestings(3):
            self.check_every_number(nesting, by_layers(nesting))

    def test_every_number_of_mixed_nestings(self):
        for nesting in MIXED:
            self.check_every_number(nesting, by_layers(nesting))

    def test_trivial_policy(self):
        for nesting in [[], [[]], [(5, 1)], [(0, 1), [], (3, 1)]]:
            self.assertEqual(time_of(nesting, 0), 0)
            for attempt in [1, -1, 2, 10 ** 200 - 1, -10 ** 200]:
                self.check(InvalidNumber, attempt, lambda: time_of(nesting, attempt))

    def test_large_constant_layers(self):
        for nesting in LARGE[:6]:
            total = attempts(nesting)
            for attempt in some_numbers(nesting, total):
                self.assertEqual(time_of(nesting, attempt), by_counting(nesting, attempt))
            for attempt in [-1, total, total + 1, 2 * total, 10 ** 200 - 1, -10 ** 199]:
                self.check(InvalidNumber, attempt, lambda: time_of(nesting, attempt))

    def test_one_wait_more(self):
        for nesting in LARGE:
            for attempt in some_numbers(nesting, attempts(nesting)):
                if attempt > 0:
                    more = time_of(nesting, attempt) - time_of(nesting, attempt - 1)
                    self.assertEqual(more, wait_at(nesting, attempt))

    def test_list_within_large_layers(self):
        nesting = [(9, MANY), [4, 5, 6], (8, MANY)]
        run = 9 * (MANY - 1)
        whole = 4 * run + 15
        self.assertEqual(time_of(nesting, 2 * MANY), 2 * run + 9)
        self.assertEqual(time_of(nesting, 3 * MANY - 1), 3 * run + 9)
        self.assertEqual(time_of(nesting, 4 * MANY * 5 + 3 * MANY + 2), 5 * (whole + 8) + 3 * run + 15 + 18)
        self.assertEqual(time_of(nesting, 4 * MANY ** 2 - 1), MANY * whole + 8 * (MANY - 1))

    def test_errors_of_the_nesting(self):
        for attempt in [0, -1, 10 ** 199]:
            self.check_layers(lambda nesting: time_of(nesting, attempt))


class FirstAttemptFrom(Raising):
    def check_times(self, nesting, waits):
        times = times_of(waits)
        beside = {time + more for time in times for more in [-1, 0, 1]}
        for time in sorted(beside | {0, times[-1] + 2, 3 * times[-1] + 3}):
            if time >= 0:
                self.assertEqual(first_attempt_from(nesting, time), first_from(times, time))
        self.check(InvalidNumber, -1, lambda: first_attempt_from(nesting, -1))

    def test_times_of_short_nestings(self):
        for nesting in short_nestings(3):
            self.check_times(nesting, by_layers(nesting))

    def test_times_of_mixed_nestings(self):
        for nesting in MIXED:
            self.check_times(nesting, by_layers(nesting))

    def test_waits_of_nothing(self):
        for layers in itertools.product([[0], (0, 3), [0, 2], [2, 0], (1, 2), [0, 0, 1]], repeat=3):
            self.check_times(list(layers), by_layers(layers))

    def test_first_of_several_attempts_with_one_time(self):
        self.assertEqual(first_attempt_from([(0, 5)], 0), 0)
        self.assertEqual(first_attempt_from([[3, 0, 0]], 3), 1)
        self.assertEqual(first_attempt_from([[3, 0, 0]], 2), 1)
        self.assertEqual(first_attempt_from([[0, 0, 3]], 1), 3)
        self.assertEqual(first_attempt_from([(0, 5), (2, 3)], 2), 5)
        self.assertEqual(first_attempt_from([(0, MANY), (2, MANY)], 7), 4 * MANY)
        self.assertEqual(first_attempt_from([(2, 3), (0, MANY), (5, 3)], 4), 2)
        self.assertEqual(first_attempt_from([(0, MANY), (2, 3), (0, MANY)], 8), 5 * MANY)

    def test_trivial_policy(self):
        for nesting in [[], [[]], [(5, 1)], [(0, 1), [], (3, 1)]]:
            self.assertEqual(first_attempt_from(nesting, 0), 0)
            for time in [1, 2, 10 ** 220 - 1]:
                self.assertIsNone(first_attempt_from(nesting, time))
            self.check(InvalidNumber, -1, lambda: first_attempt_from(nesting, -1))

    def test_no_waits_but_of_nothing(self):
        for nesting in [[(0, MANY)] * 8, [[0, 0], (0, 3)], [(0, 2)]]:
            self.assertEqual(first_attempt_from(nesting, 0), 0)
            self.assertIsNone(first_attempt_from(nesting, 1))
            self.assertIsNone(first_attempt_from(nesting, 10 ** 220 - 1))

    def test_negative_times(self):
        for nesting in [[(1, 3)], [(0, MANY)] * 8]:
            for time in [-1, -2, -10 ** 220]:
                self.check(InvalidNumber, time, lambda: first_attempt_from(nesting, time))

    def check_first(self, nesting, time):
        found = first_attempt_from(nesting, time)
        self.assertGreaterEqual(time_of(nesting, found), time)
        if found > 0:
            self.assertLess(time_of(nesting, found - 1), time)

    def test_large_nestings(self):
        for nesting in LARGE:
            total = attempts(nesting)
            last = time_of(nesting, total - 1)
            for attempt in some_numbers(nesting, total):
                time = time_of(nesting, attempt)
                for near in [time - 1, time, time + 1]:
                    if 0 <= near <= last:
                        self.check_first(nesting, near)
            for time in [last + 1, last + 2, 10 ** 220 - 1]:
                self.assertIsNone(first_attempt_from(nesting, time))

    def test_waits_that_are_equal(self):
        nesting = [(3, MANY)] * 8
        for attempt in some_numbers(nesting, MANY ** 8):
            if attempt > 0:
                for early in [2, 1, 0]:
                    self.assertEqual(first_attempt_from(nesting, 3 * attempt - early), attempt)
        self.assertIsNone(first_attempt_from(nesting, 3 * (MANY ** 8 - 1) + 1))

    def test_errors_of_the_nesting(self):
        for time in [0, -1, 10 ** 219]:
            self.check_layers(lambda nesting: first_attempt_from(nesting, time))


class PassedOn(unittest.TestCase):
    def check_some_numbers(self, nesting, waits):
        times = list(itertools.accumulate(waits, initial=0))
        for index in [1, 2, 99, 100, 101, 5000, len(waits) - 1, len(waits)]:
            self.assertEqual(wait_at(nesting, index), waits[index - 1])
            self.assertEqual(time_of(nesting, index), times[index])
            self.assertEqual(first_attempt_from(nesting, times[index]), first_from(times, times[index]))
        self.assertIsNone(first_attempt_from(nesting, times[-1] + 1))

    def test_flattened_lists(self):
        for nesting in [[(1, 100), [number % 7 for number in range(99)]], [list(range(100)), (3, 98)]]:
            waits = flatten(nesting)
            self.check_some_numbers([waits], waits)
            self.check_some_numbers(nesting, waits)
            within = [(5, 2), waits, (4, MANY)]
            self.assertEqual(wait_at(within, 2 * 4321), waits[4320])
            self.assertEqual(time_of(within, 2 * 4321), 5 * 4321 + sum(waits[:4321]))
            whole = 5 * (len(waits) + 1) + sum(waits)
            self.assertEqual(first_attempt_from(within, 9 * (whole + 4)), 9 * 2 * (len(waits) + 1))

    def test_normal_forms_of_many_layers(self):
        nesting = normal_form([(1, MANY), [2, 3], (4, 5), (0, MANY)] * 100)
        total = attempts(nesting)
        self.assertEqual(total, (MANY * 3 * 5 * MANY) ** 100)
        for attempt in [1, MANY, 3 * MANY, total // 2, total - 1]:
            time = time_of(nesting, attempt)
            self.assertEqual(time - time_of(nesting, attempt - 1), wait_at(nesting, attempt))
            found = first_attempt_from(nesting, time)
            self.assertEqual(time_of(nesting, found), time)
            self.assertLess(time_of(nesting, found - 1), time)


class Arguments(Keeping):
    def test_arguments_are_left(self):
        for call in [wait_at, time_of, first_attempt_from]:
            for number in [1, 2, 3]:
                self.check_kept(lambda nesting: call(nesting, number), [[1, 2, 1], (3, 2)])
                self.check_kept(lambda nesting: call(nesting, number), [(3, MANY), [4], [], (0, 1)])

    def test_failing_calls_leave_their_arguments(self):
        for call in [wait_at, time_of, first_attempt_from]:
            nesting = [[1, 2, 1], (3, 2), []]
            self.check(InvalidNumber, -1, lambda: call(nesting, -1))
            self.assertEqual(nesting, [[1, 2, 1], (3, 2), []])

    def test_later_calls_see_the_changed_nesting(self):
        nesting = [[1, 2, 1], (3, 2)]
        self.assertEqual([wait_at(nesting, 4), time_of(nesting, 4), first_attempt_from(nesting, 5)], [3, 7, 4])
        nesting[0][0] = 5
        nesting[1] = (4, 2)
        self.assertEqual([wait_at(nesting, 4), time_of(nesting, 4), first_attempt_from(nesting, 5)], [4, 12, 1])


if __name__ == "__main__":
    unittest.main()
