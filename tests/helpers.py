"""What several test files use."""

import unittest

from retrynest.errors import RetryError


def by_numbers(inner, outer):
    """The policy that results from nesting, wait by wait as in point [5]."""
    count = len(inner) + 1
    found = []
    for number in range(1, count * (len(outer) + 1)):
        if number % count != 0:
            found.append(inner[number % count - 1])
        else:
            found.append(outer[number // count - 1])
    return found


def written_out(layer):
    if isinstance(layer, tuple):
        return [layer[0] for _ in range(layer[1] - 1)]
    return layer


def by_layers(nesting):
    """The policy that a short nesting stands for, as in point [6]."""
    waits = []
    for layer in nesting:
        waits = by_numbers(waits, written_out(layer))
    return waits


class Raising(unittest.TestCase):
    def check(self, error, value, call):
        with self.assertRaises(RetryError) as raised:
            call()
        self.assertIs(type(raised.exception), error)
        self.assertEqual(raised.exception.value, value)
