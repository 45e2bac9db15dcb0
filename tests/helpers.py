"""What several test files use."""

import copy
import itertools
import unittest

from retrynest.errors import InvalidLayer, RetryError

HIGH = 10 ** 12 - 1
MANY = 10 ** 20 - 1

# Nestings that are invalid, with the index of the first invalid layer.
INVALID = [
    (0, [[-1]]),
    (0, [[0, 5, -1]]),
    (1, [[0, 5], [3, -1]]),
    (0, [(-1, 5)]),
    (0, [(-1, 1)]),
    (0, [(-HIGH, 1)]),
    (2, [(0, 1), [], (-1, 1)]),
    (1, [[1], (-1, 2), [2]]),
    (0, [(0, 0)]),
    (0, [(3, 0)]),
    (0, [(3, -1)]),
    (0, [(3, -10 ** 20)]),
    (0, [(-3, -3)]),
    (1, [(3, 1), (3, 0)]),
    (2, [(3, 4), [1, 2], (0, 0)]),
    (1, [[1], [-1], (-1, 1), (1, 0)]),
    (1, [[1], (1, 0), [-1], (-1, 1)]),
    (1, [[1], (-1, 1), (1, 0), [-1]]),
    (7, [[1], (1, 3), [2], (0, 1), [], [4, 5], (6, 2), [-1]]),
    (7, [[1], (1, 3), [2], (0, 1), [], [4, 5], (6, 2), (7, 0)]),
    (1, [(1, 10 ** 19), [-1]]),
    (1, [(1, 10 ** 19), (-1, 1)]),
    (1, [(1, 10 ** 19), (1, 0)]),
    (0, [(-1, 10 ** 19)]),
    (2, [(1, 10000), [1], [5, -1], (1, 10000)]),
]

# Layers of short nestings: trivial ones, constant ones that are written in two
# ways and can be merged or divided, and others that can and cannot be split.
LAYERS = [[], (1, 1), (1, 2), (1, 4), (2, 3), [1], [2], [1, 1], [1, 2], [1, 2, 1], [2, 1, 2]]


def short_nestings(most):
    """All nestings of up to so many of the layers above."""
    for length in range(most + 1):
        yield from map(list, itertools.product(LAYERS, repeat=length))


def by_numbers(inner, outer):
    """The policy that results from nesting, wait by wait as in point [5]."""
    count = len(inner) + 1
    found = []
    for number in range(1, count * (len(outer) + 1)):
        if number % count != 0:
            found.append(inner[number % count - 1])
        else:
            found.append(outer[number // count - 1])
    return found


def written_out(layer):
    if isinstance(layer, tuple):
        return [layer[0] for _ in range(layer[1] - 1)]
    return layer


def by_layers(nesting):
    """The policy that a short nesting stands for, as in point [6]."""
    waits = []
    for layer in nesting:
        waits = by_numbers(waits, written_out(layer))
    return waits


def is_part(waits, number):
    """Whether a policy with so many attempts is nested in the policy, as in point [8]."""
    if (len(waits) + 1) % number != 0:
        return False
    return by_numbers(waits[:number - 1], waits[number - 1::number]) == waits


def is_single(waits):
    """Whether a policy is unsplittable, as in point [7]."""
    return waits != [] and not any(is_part(waits, number) for number in range(2, len(waits) + 1))


def is_normal_layer(layer):
    if isinstance(layer, tuple):
        return len(layer) == 2 and layer[0] >= 0 and layer[1] >= 2
    return isinstance(layer, list) and is_single(layer) and any(wait != layer[0] for wait in layer)


def is_normal(nesting):
    """Whether a nesting is a normal form, as in point [9]."""
    for one, other in itertools.pairwise(nesting):
        if isinstance(one, tuple) and isinstance(other, tuple) and one[0] == other[0]:
            return False
    return isinstance(nesting, list) and all(is_normal_layer(layer) for layer in nesting)


def times_of(waits):
    """The times of all attempts of a policy, as in point [4]."""
    return [sum(waits[:attempt]) for attempt in range(len(waits) + 1)]


def by_counting(nesting, attempt):
    """The time of an attempt of constant layers: how often each wait stands before it."""
    inside = 1
    time = 0
    for wait, count in nesting:
        time += wait * (attempt // inside - attempt // (inside * count))
        inside *= count
    return time


def all_policies(kinds, most):
    """All policies with at most so many waits, each below `kinds`."""
    for length in range(most + 1):
        yield from map(list, itertools.product(range(kinds), repeat=length))


def results_of_nesting(kinds, most):
    """All policies with at most so many waits that two policies that are not trivial give."""
    found = set()
    policies = [waits for waits in all_policies(kinds, most // 2) if waits]
    for inner in policies:
        for outer in policies:
            if (len(inner) + 1) * (len(outer) + 1) <= most + 1:
                found.add(tuple(by_numbers(inner, outer)))
    return found


def lists_of(value):
    """A value, if it is a list, and all lists in it."""
    if isinstance(value, (list, tuple)):
        found = [value] if isinstance(value, list) else []
        return found + [part for item in value for part in lists_of(item)]
    return []


def scramble(value):
    """Change each list in a value in place."""
    for part in lists_of(value):
        part.insert(0, 77)
        part.append(88)


class Raising(unittest.TestCase):
    def check(self, error, value, call):
        with self.assertRaises(RetryError) as raised:
            call()
        self.assertIs(type(raised.exception), error)
        self.assertEqual(raised.exception.value, value)

    def check_layers(self, call):
        """Check that a call takes a nesting and raises its errors."""
        for index, nesting in INVALID:
            with self.subTest(nesting=nesting):
                kept = copy.deepcopy(nesting)
                self.check(InvalidLayer, index, lambda: call(nesting))
                self.assertEqual(nesting, kept)

    def check_layers_of_two(self, call):
        """Check that a call takes two nestings and raises the errors of the first one first."""
        good = [[1, 2], (5, 3)]
        self.check_layers(lambda nesting: call(nesting, good))
        self.check_layers(lambda nesting: call(good, nesting))
        self.check_layers(lambda nesting: call([], nesting))
        self.check(InvalidLayer, 2, lambda: call([[1], [2], [-1]], [[-1]]))
        self.check(InvalidLayer, 0, lambda: call([(1, 0)], [[1], [2], (-1, 1)]))
        self.check(InvalidLayer, 1, lambda: call([[1], (1, 0)], [(1, 0)]))


class Keeping(Raising):
    def check_kept(self, call, *arguments):
        """Check that a call shares nothing with its arguments and later calls."""
        kept = copy.deepcopy(arguments)
        expected = copy.deepcopy(call(*arguments))
        self.assertEqual(arguments, kept)
        found = call(*arguments)
        parts = lists_of(found)
        self.assertEqual(len({id(part) for part in parts}), len(parts))
        scramble(found)
        self.assertEqual(arguments, kept)
        found = call(*arguments)
        self.assertEqual(found, expected)
        scramble(arguments)
        self.assertEqual(found, expected)
        self.assertEqual(call(*kept), expected)
