"""Point [3]: the error classes."""

import copy
import inspect
import pickle
import unittest

from retrynest import errors
from retrynest.errors import (
    InvalidLayer, InvalidNumber, InvalidWait, NoMoreAttempts, RetryError, TooManyAttempts, Unreadable,
)

CLASSES = [InvalidWait, InvalidLayer, InvalidNumber, TooManyAttempts, NoMoreAttempts, Unreadable]
NAMES = ["InvalidWait", "InvalidLayer", "InvalidNumber", "TooManyAttempts", "NoMoreAttempts", "Unreadable"]


class Bases(unittest.TestCase):
    def test_base_class_is_a_direct_subclass_of_value_error(self):
        self.assertEqual(RetryError.__bases__, (ValueError,))

    def test_each_other_class_is_a_direct_subclass_of_the_base_class(self):
        for error in CLASSES:
            with self.subTest(error=error):
                self.assertEqual(error.__bases__, (RetryError,))

    def test_no_class_is_a_subclass_of_another_one(self):
        for first in CLASSES:
            for second in CLASSES:
                self.assertEqual(issubclass(first, second), first is second)
            self.assertFalse(issubclass(RetryError, first))

    def test_names(self):
        found = [name for name, item in vars(errors).items() if inspect.isclass(item)]
        self.assertEqual(sorted(found), sorted(NAMES + ["RetryError"]))
        self.assertEqual([error.__name__ for error in CLASSES], NAMES)

    def test_classes_are_defined_in_the_file(self):
        for error in CLASSES + [RetryError]:
            self.assertEqual(error.__module__, "retrynest.errors")


class Values(unittest.TestCase):
    VALUES = [0, -1, 7, 10 ** 19, 10 ** 5000, "5x0", ""]

    def test_value_by_position(self):
        for error in CLASSES:
            for value in self.VALUES:
                self.assertIs(error(value).value, value)

    def test_value_by_name(self):
        for error in CLASSES:
            for value in self.VALUES:
                self.assertIs(error(value=value).value, value)

    def test_value_is_an_attribute_of_the_object(self):
        for error in CLASSES:
            self.assertEqual(vars(error(3)), {"value": 3})
            self.assertFalse(hasattr(error, "value"))

    def test_exactly_one_argument(self):
        for error in CLASSES:
            for call in [lambda: error(), lambda: error(1, 2), lambda: error(index=1), lambda: error(1, value=1)]:
                with self.assertRaises(TypeError):
                    call()

    def test_the_parameter_is_called_value(self):
        for error in CLASSES:
            self.assertEqual(list(inspect.signature(error).parameters), ["value"])

    def test_two_errors_have_their_own_values(self):
        for error in CLASSES:
            first, second = error(1), error(2)
            self.assertEqual((first.value, second.value), (1, 2))

    def test_message_of_any_value(self):
        for error in CLASSES:
            for value in self.VALUES:
                self.assertIsInstance(str(error(value)), str)
                self.assertIsInstance(repr(error(value=value)), str)

    def test_copies_keep_the_value(self):
        for error in CLASSES:
            for made in [error(4), error(value=4)]:
                self.assertEqual(copy.copy(made).value, 4)
                self.assertEqual(pickle.loads(pickle.dumps(made)).value, 4)


class Catching(unittest.TestCase):
    def caught(self, raised, handled):
        try:
            raise raised
        except handled:
            return True
        except BaseException:
            return False

    def test_own_base_and_value_error_catch_each_class(self):
        for error in CLASSES:
            for handled in [error, RetryError, ValueError]:
                self.assertTrue(self.caught(error(1), handled))

    def test_each_class_catches_nothing_else(self):
        others = [ValueError(1), RetryError(1), TypeError(1), KeyError(1), IndexError(1), ArithmeticError(1)]
        for error in CLASSES:
            for raised in others + [other(1) for other in CLASSES if other is not error]:
                self.assertFalse(self.caught(raised, error))

    def test_base_class_catches_none_of_pythons_own_errors(self):
        for raised in [ValueError(1), TypeError(1), KeyError(1), UnicodeError(1), Exception(1)]:
            self.assertFalse(self.caught(raised, RetryError))


if __name__ == "__main__":
    unittest.main()
