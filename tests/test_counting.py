"""Points [3], [7], [8]: count_unsplittable."""

import inspect
import math
import unittest

from helpers import Raising, all_policies, is_single, results_of_nesting
from retrynest.counting import count_unsplittable
from retrynest.errors import InvalidNumber
from retrynest.normal import is_unsplittable

PRIMES = [number for number in range(2, 200) if all(number % part for part in range(2, number))]
KINDS = [1, 2, 3, 10, 99, 100]


def by_nesting(kinds, most):
    """How many unsplittable policies there are with 0, 1, .., `most` waits, as in point [7]."""
    splittable = results_of_nesting(kinds, most)
    found = [0] * (most + 1)
    for waits in all_policies(kinds, most):
        if waits and tuple(waits) not in splittable:
            found[len(waits)] += 1
    return found


def ordered_products(number):
    """All lists of factors of at least 2 that have this product."""
    if number == 1:
        return [[]]
    return [
        [factor, *rest]
        for factor in range(2, number + 1) if number % factor == 0
        for rest in ordered_products(number // factor)
    ]


def moebius(number):
    primes = [part for part in PRIMES if number % part == 0]
    return (-1) ** len(primes) if math.prod(primes) == number else 0


def by_products(attempts, kinds):
    """The count by inclusion and exclusion over all ways to nest several policies.

    Each policy is one product of unsplittable ones in one way, except that
    constant parts with one wait change places, which the second term corrects.
    """
    if attempts == 1:
        return 0
    total = 0
    for factors in ordered_products(attempts):
        total -= (-1) ** len(factors) * kinds ** sum(factor - 1 for factor in factors)
    total += kinds * moebius(attempts)
    return total + kinds if attempts in PRIMES else total


class Interface(Raising):
    def test_parameters(self):
        self.assertEqual(list(inspect.signature(count_unsplittable).parameters), ["attempts", "kinds"])

    def test_function_is_defined_in_the_file(self):
        self.assertEqual(count_unsplittable.__module__, "retrynest.counting")

    def test_calls_by_name(self):
        self.assertEqual(count_unsplittable(kinds=2, attempts=6), 18)
        self.assertEqual(count_unsplittable(6, kinds=2), 18)
        self.check(InvalidNumber, 0, lambda: count_unsplittable(kinds=-1, attempts=0))

    def test_examples(self):
        found = [count_unsplittable(1, 2), count_unsplittable(3, 2), count_unsplittable(4, 2), count_unsplittable(6, 2)]
        self.assertEqual(found, [0, 4, 4, 18])

    def test_result_is_an_integer(self):
        for attempts in [1, 2, 4, 6]:
            self.assertIs(type(count_unsplittable(attempts, 1)), int)
            self.assertIs(type(count_unsplittable(attempts, 3)), int)


class Count(unittest.TestCase):
    def test_one_attempt(self):
        for kinds in [*range(1, 101), 10 ** 30]:
            self.assertEqual(count_unsplittable(1, kinds), 0)

    def test_prime_numbers_of_attempts(self):
        for attempts in PRIMES:
            for kinds in KINDS:
                self.assertEqual(count_unsplittable(attempts, kinds), kinds ** (attempts - 1))

    def test_squares_of_primes(self):
        for prime in [2, 3, 5, 7, 11, 13]:
            for kinds in KINDS:
                expected = kinds ** (prime ** 2 - 1) - kinds ** (2 * prime - 2)
                self.assertEqual(count_unsplittable(prime ** 2, kinds), expected)

    def test_cubes_of_primes(self):
        for prime in [2, 3, 5]:
            for kinds in KINDS:
                expected = kinds ** (prime ** 3 - 1) - 2 * kinds ** (prime ** 2 + prime - 2) + kinds ** (3 * prime - 3)
                self.assertEqual(count_unsplittable(prime ** 3, kinds), expected)

    def test_products_of_two_primes(self):
        for one, other in [(2, 3), (2, 5), (3, 5), (2, 97), (7, 11), (11, 17), (3, 61)]:
            for kinds in KINDS:
                expected = kinds ** (one * other - 1) - 2 * kinds ** (one + other - 2) + kinds
                self.assertEqual(count_unsplittable(one * other, kinds), expected)

    def test_products_of_a_square_and_a_prime(self):
        for one, other in [(2, 3), (3, 2), (2, 5), (5, 2), (3, 5), (2, 47), (7, 3)]:
            for kinds in KINDS:
                twice = kinds ** (one + one * other - 2) + kinds ** (one ** 2 + other - 2)
                expected = kinds ** (one ** 2 * other - 1) - 2 * twice + 3 * kinds ** (2 * one + other - 3)
                self.assertEqual(count_unsplittable(one ** 2 * other, kinds), expected)

    def test_products_of_three_primes(self):
        for primes in [(2, 3, 5), (2, 3, 7), (2, 5, 7), (3, 5, 7), (2, 3, 31), (2, 7, 13)]:
            attempts = math.prod(primes)
            for kinds in KINDS:
                twice = sum(kinds ** (prime + attempts // prime - 2) for prime in primes)
                expected = kinds ** (attempts - 1) - 2 * twice + 6 * kinds ** (sum(primes) - 3) - kinds
                self.assertEqual(count_unsplittable(attempts, kinds), expected)

    def test_most_attempts_and_kinds(self):
        # The factors of 200, less 1, add up to these numbers, in this many orders.
        two = [(2, 99 + 1), (2, 49 + 3), (2, 39 + 4), (2, 24 + 7), (2, 19 + 9)]
        three = [(3, 1 + 1 + 49), (6, 1 + 3 + 24), (6, 1 + 4 + 19), (3, 1 + 9 + 9), (3, 4 + 4 + 7), (6, 3 + 4 + 9)]
        four = [(4, 1 + 1 + 1 + 24), (12, 1 + 1 + 4 + 9), (12, 1 + 3 + 4 + 4)]
        five = [(10, 1 + 1 + 1 + 4 + 4)]
        expected = 100 ** 199
        for sign, terms in [(-1, two), (1, three), (-1, four), (1, five)]:
            expected += sign * sum(many * 100 ** exponent for many, exponent in terms)
        self.assertEqual(count_unsplittable(200, 100), expected)

    def test_one_kind_of_wait(self):
        for attempts in range(1, 201):
            self.assertEqual(count_unsplittable(attempts, 1), 1 if attempts in PRIMES else 0)

    def test_written_out_cases(self):
        found = [count_unsplittable(attempts, 2) for attempts in range(1, 11)]
        self.assertEqual(found, [0, 2, 4, 4, 16, 18, 64, 104, 240, 450])
        found = [count_unsplittable(attempts, 3) for attempts in range(1, 9)]
        self.assertEqual(found, [0, 3, 9, 18, 81, 192, 729, 2052])

    def test_compared_with_the_definition(self):
        for kinds, most in [(1, 30), (2, 15), (3, 8), (4, 6), (7, 4)]:
            found = [count_unsplittable(waits + 1, kinds) for waits in range(most + 1)]
            self.assertEqual(found, by_nesting(kinds, most))

    def test_compared_with_single_policies(self):
        for kinds, most in [(2, 8), (3, 5)]:
            for length in range(most + 1):
                policies = [waits for waits in all_policies(kinds, length) if len(waits) == length]
                expected = count_unsplittable(length + 1, kinds)
                self.assertEqual(len([waits for waits in policies if is_single(waits)]), expected)
                self.assertEqual(len([waits for waits in policies if is_unsplittable(waits)]), expected)

    def test_compared_with_all_products(self):
        for attempts in range(1, 201):
            for kinds in [1, 2, 3, 100]:
                self.assertEqual(count_unsplittable(attempts, kinds), by_products(attempts, kinds))

    def test_more_attempts_and_kinds_than_usual(self):
        for attempts, kinds in [(210, 100), (256, 7), (360, 2), (200, 10 ** 12), (12, 10 ** 40)]:
            self.assertEqual(count_unsplittable(attempts, kinds), by_products(attempts, kinds))


class Errors(Raising):
    def test_attempts_below_one(self):
        for attempts in [0, -1, -2, -200, -10 ** 30]:
            for kinds in [1, 2, 100]:
                self.check(InvalidNumber, attempts, lambda: count_unsplittable(attempts, kinds))

    def test_kinds_below_one(self):
        for kinds in [0, -1, -2, -100, -10 ** 30]:
            for attempts in [1, 2, 4, 200]:
                self.check(InvalidNumber, kinds, lambda: count_unsplittable(attempts, kinds))

    def test_attempts_come_first(self):
        self.check(InvalidNumber, 0, lambda: count_unsplittable(0, -1))
        self.check(InvalidNumber, -1, lambda: count_unsplittable(-1, 0))
        self.check(InvalidNumber, -7, lambda: count_unsplittable(-7, -8))


if __name__ == "__main__":
    unittest.main()
