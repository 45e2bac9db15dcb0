"""Points [2], [6]: show_nesting."""

import copy
import inspect
import sys
import unittest

from helpers import HIGH, MANY, Keeping, short_nestings
from retrynest.normal import normal_form
from retrynest.policies import flatten
from retrynest.powers import power
from retrynest.texts import show_nesting


def digits_of(number):
    """The decimal digits of a number, also of one that Python refuses to write."""
    limit = sys.get_int_max_str_digits()
    sys.set_int_max_str_digits(0)
    try:
        return str(number)
    finally:
        sys.set_int_max_str_digits(limit)


class Interface(unittest.TestCase):
    def test_parameters(self):
        self.assertEqual(list(inspect.signature(show_nesting).parameters), ["nesting"])

    def test_function_is_defined_in_the_file(self):
        self.assertEqual(show_nesting.__module__, "retrynest.texts")

    def test_calls_by_name(self):
        self.assertEqual(show_nesting(nesting=[(5, 3), [1, 2], []]), "5x3 / 1,2 / -")

    def test_examples(self):
        self.assertEqual(show_nesting([(5, 3), [1, 2], []]), "5x3 / 1,2 / -")

    def test_result_is_a_string(self):
        for nesting in [[], [[]], [(5, 3), [1, 2], []]]:
            self.assertIs(type(show_nesting(nesting)), str)


class Show(unittest.TestCase):
    def test_written_out_cases(self):
        cases = [
            ([], "none"),
            ([[]], "-"),
            ([[], []], "- / -"),
            ([[], [], []], "- / - / -"),
            ([[0]], "0"),
            ([[7]], "7"),
            ([[1, 2]], "1,2"),
            ([[0, 0, 0]], "0,0,0"),
            ([[10, 200, 3000]], "10,200,3000"),
            ([(0, 1)], "0x1"),
            ([(5, 1)], "5x1"),
            ([(5, 2)], "5x2"),
            ([(0, 10)], "0x10"),
            ([(120, 300)], "120x300"),
            ([(3, 2), (3, 2)], "3x2 / 3x2"),
            ([[], (1, 1), []], "- / 1x1 / -"),
            ([[1], [2, 3], (4, 5), [], [6]], "1 / 2,3 / 4x5 / - / 6"),
            ([[1, 1], [1, 2, 1]], "1,1 / 1,2,1"),
        ]
        for nesting, text in cases:
            self.assertEqual(show_nesting(nesting), text)

    def test_layers_stay_as_they_are(self):
        self.assertNotEqual(show_nesting([[3, 3]]), show_nesting([(3, 3)]))
        self.assertNotEqual(show_nesting([]), show_nesting([[]]))
        self.assertEqual(show_nesting([(4, 3), [4], [], [4, 5, 4]]), "4x3 / 4 / - / 4,5,4")

    def test_no_attempts(self):
        self.assertEqual(show_nesting([(5, 0)]), "5x0")
        self.assertEqual(show_nesting([(0, 0), [1]]), "0x0 / 1")

    def test_large_numbers(self):
        self.assertEqual(show_nesting([(HIGH, MANY)]), "9" * 12 + "x" + "9" * 20)
        self.assertEqual(show_nesting([[HIGH, 10 ** 11, HIGH]]), "9" * 12 + ",1" + "0" * 11 + "," + "9" * 12)
        self.assertEqual(show_nesting([(HIGH, MANY)] * 8), " / ".join(["9" * 12 + "x" + "9" * 20] * 8))

    def test_numbers_beside_powers_of_ten(self):
        for digits in [1, 2, 18, 63, 64, 65, 66, 127, 128, 129, 191, 192, 193, 640, 1999, 2000]:
            power_of_ten = 10 ** digits
            self.assertEqual(show_nesting([(power_of_ten, 2)]), "1" + "0" * digits + "x2")
            self.assertEqual(show_nesting([(2, power_of_ten - 1)]), "2x" + "9" * digits)
            self.assertEqual(show_nesting([[power_of_ten + 1]]), "1" + "0" * (digits - 1) + "1")
            self.assertEqual(show_nesting([[30 * power_of_ten]]), "30" + "0" * digits)

    def test_numbers_of_all_sizes(self):
        for exponent in range(0, 3000, 7):
            for number in [3 ** exponent, 2 ** exponent * 5 ** (exponent // 2)]:
                self.assertEqual(show_nesting([[number], (number, number)]), f"{number} / {number}x{number}")

    def test_numbers_that_python_refuses_to_write(self):
        for number in [10 ** 4300, 7 ** 9000, 10 ** 20000 + 3, MANY ** 512]:
            digits = digits_of(number)
            self.assertEqual(show_nesting([(3, number), [4, number]]), f"3x{digits} / 4,{digits}")

    def test_long_lists(self):
        for count in [60, 61, 300, 999, 9999]:
            waits = [7 * number % 1000 for number in range(count)]
            self.assertEqual(show_nesting([waits]), ",".join(map(str, waits)))
            self.assertEqual(show_nesting([waits, [], waits]), ",".join(map(str, waits)).join(["", " / - / ", ""]))

    def test_many_layers(self):
        self.assertEqual(show_nesting([[]] * 5000), "- / " * 4999 + "-")
        self.assertEqual(show_nesting([(1, 2), [3]] * 2000), "1x2 / 3 / " * 1999 + "1x2 / 3")

    def test_results_are_passed_on(self):
        self.assertEqual(show_nesting([flatten([(1, 5), [2]])]), "1,1,1,1,2,1,1,1,1")
        self.assertEqual(show_nesting([flatten([(1, 10000)])]), ",".join(["1"] * 9999))
        self.assertEqual(show_nesting(normal_form([(4, 3), [4], [], [4, 5, 4]])), "4x12 / 5x2")
        found = show_nesting(power(power(power([(5, MANY)], 8), 8), 8))
        self.assertEqual(found, "5x" + digits_of(MANY ** 512))

    def test_different_nestings_have_different_texts(self):
        nestings = list(short_nestings(3))
        self.assertEqual(len({show_nesting(nesting) for nesting in nestings}), len(nestings))


class Arguments(Keeping):
    def test_arguments_are_left(self):
        for nesting in [[], [[]], [[1, 2, 1], (3, 2), []], [(HIGH, MANY)] * 8]:
            self.check_kept(show_nesting, nesting)

    def test_later_calls_see_the_changed_nesting(self):
        nesting = [[1, 2], (3, 2)]
        kept = copy.deepcopy(nesting)
        self.assertEqual(show_nesting(nesting), "1,2 / 3x2")
        self.assertEqual(nesting, kept)
        nesting[0].clear()
        nesting[1] = (4, 1)
        self.assertEqual(show_nesting(nesting), "- / 4x1")
        nesting.clear()
        self.assertEqual(show_nesting(nesting), "none")


if __name__ == "__main__":
    unittest.main()
