"""The document as a whole: its interface, its examples, and what it says over all files."""

import ast
import doctest
import importlib
import inspect
import os
import unittest

from helpers import LAYERS, MANY, Raising, by_layers, short_nestings
from retrynest.counting import count_unsplittable
from retrynest.dividing import common_inner, without_inner, without_outer
from retrynest.errors import (
    InvalidLayer, InvalidNumber, InvalidWait, NoMoreAttempts, RetryError, TooManyAttempts, Unreadable,
)
from retrynest.normal import is_unsplittable, normal_form, same_policy
from retrynest.policies import attempts, flatten, nest
from retrynest.powers import commute, power, root
from retrynest.readings import read_nesting
from retrynest.runners import Runner
from retrynest.splitting import inner_numbers, split
from retrynest.texts import show_nesting
from retrynest.times import first_attempt_from, time_of, wait_at

PACKAGE = os.path.join(os.path.dirname(os.path.dirname(os.path.abspath(__file__))), "retrynest")

FUNCTIONS = {
    "policies": {"nest": ["inner", "outer"], "attempts": ["nesting"], "flatten": ["nesting"]},
    "splitting": {"inner_numbers": ["waits"], "split": ["waits", "number"]},
    "normal": {"normal_form": ["nesting"], "is_unsplittable": ["waits"], "same_policy": ["first", "second"]},
    "times": {
        "wait_at": ["nesting", "index"], "time_of": ["nesting", "attempt"], "first_attempt_from": ["nesting", "time"],
    },
    "dividing": {
        "without_inner": ["nesting", "inner"], "without_outer": ["nesting", "outer"],
        "common_inner": ["first", "second"],
    },
    "powers": {"power": ["nesting", "times"], "root": ["nesting", "times"], "commute": ["first", "second"]},
    "counting": {"count_unsplittable": ["attempts", "kinds"]},
    "texts": {"show_nesting": ["nesting"]},
    "readings": {"read_nesting": ["text"]},
}

CLASSES = {
    "errors": [
        "RetryError", "InvalidWait", "InvalidLayer", "InvalidNumber", "TooManyAttempts", "NoMoreAttempts",
        "Unreadable",
    ],
    "runners": ["Runner"],
}

# The examples of the interface as they stand there.
EXAMPLES = """
>>> from retrynest.policies import nest
>>> [nest([1, 2], [5]), nest([5], [1, 2])]
[[1, 2, 5, 1, 2], [5, 1, 5, 2, 5]]

>>> from retrynest.policies import attempts, flatten
>>> [attempts([[1, 2], (5, 10 ** 19)]), flatten([(0, 2), [7], (3, 2)])]
[30000000000000000000, [0, 7, 0, 3, 0, 7, 0]]

>>> from retrynest.splitting import inner_numbers
>>> [inner_numbers([1, 2, 1, 2, 1]), inner_numbers([1, 1, 1, 1, 1]), inner_numbers([])]
[[1, 2, 6], [1, 2, 3, 6], [1]]

>>> from retrynest.splitting import split
>>> split([1, 2, 1, 2, 1], 2)
([1], [2, 2])

>>> from retrynest.normal import normal_form
>>> [normal_form([[1, 2, 1, 2, 1]]), normal_form([(4, 3), [4], [], [4, 5, 4]])]
[[(1, 2), (2, 3)], [(4, 12), (5, 2)]]

>>> from retrynest.normal import is_unsplittable
>>> [is_unsplittable([1, 2, 3]), is_unsplittable([1, 2, 1]), is_unsplittable([8, 8]), is_unsplittable([])]
[True, False, True, False]

>>> from retrynest.normal import same_policy
>>> [same_policy([(1, 2), (1, 15)], [(1, 6), (1, 5)]), same_policy([(1, 2), (2, 3)], [(2, 3), (1, 2)])]
[True, False]

>>> from retrynest.times import first_attempt_from, time_of, wait_at
>>> nesting = [(0, 10), (5, 10), (60, 10 ** 19)]
>>> [wait_at(nesting, 31), wait_at(nesting, 30), wait_at(nesting, 1000), time_of(nesting, 1234), \
first_attempt_from(nesting, 1271)]
[0, 5, 60, 1275, 1230]

>>> from retrynest.dividing import without_inner, without_outer
>>> nesting = [(1, 6), [2, 3], (1, 4)]
>>> [without_inner(nesting, [(1, 2)]), without_inner(nesting, [(1, 4)]), without_outer(nesting, [[2, 3], (1, 4)])]
[[(1, 3), [2, 3], (1, 4)], None, [(1, 6)]]

>>> from retrynest.dividing import common_inner
>>> common_inner([(1, 6), [2, 3]], [(1, 4), (9, 2)])
[(1, 2)]

>>> from retrynest.powers import power, root
>>> [power([(1, 2), [2, 3], (1, 3)], 2), root([(7, 16)], 2), root([(7, 2)], 2)]
[[(1, 2), [2, 3], (1, 6), [2, 3], (1, 3)], [(7, 4)], None]

>>> from retrynest.powers import commute
>>> [commute([(3, 4)], [[3, 3]]), commute([(3, 2)], [(4, 2)])]
[True, False]

>>> from retrynest.counting import count_unsplittable
>>> [count_unsplittable(1, 2), count_unsplittable(3, 2), count_unsplittable(4, 2), count_unsplittable(6, 2)]
[0, 4, 4, 18]

>>> from retrynest.runners import Runner
>>> runner = Runner([(1, 3)])
>>> runner.fail(2)
>>> runner.wrap([10])
>>> runner.fail()
>>> [runner.attempt(), runner.time(), runner.next_wait(), runner.left()]
[3, 12, 1, 2]

>>> from retrynest.texts import show_nesting
>>> show_nesting([(5, 3), [1, 2], []])
'5x3 / 1,2 / -'
"""


def module_names():
    return sorted(name[:-3] for name in os.listdir(PACKAGE) if name.endswith(".py"))


def imported(name):
    """The modules that a file of the package imports from."""
    with open(os.path.join(PACKAGE, name + ".py"), encoding="utf-8") as file:
        tree = ast.parse(file.read())
    found = set()
    for node in ast.walk(tree):
        if isinstance(node, ast.ImportFrom):
            found.add(node.module)
        elif isinstance(node, ast.Import):
            found.update(alias.name for alias in node.names)
    return found


class Interface(unittest.TestCase):
    def test_functions(self):
        for file, functions in FUNCTIONS.items():
            module = importlib.import_module("retrynest." + file)
            for name, parameters in functions.items():
                function = getattr(module, name)
                self.assertTrue(inspect.isfunction(function))
                self.assertEqual(function.__module__, module.__name__)
                found = inspect.signature(function).parameters
                self.assertEqual(list(found), parameters)
                for parameter in found.values():
                    self.assertIs(parameter.kind, inspect.Parameter.POSITIONAL_OR_KEYWORD)
                    self.assertIs(parameter.default, inspect.Parameter.empty)

    def test_classes(self):
        for file, classes in CLASSES.items():
            module = importlib.import_module("retrynest." + file)
            for name in classes:
                found = getattr(module, name)
                self.assertTrue(inspect.isclass(found))
                self.assertEqual(found.__module__, module.__name__)

    def test_examples(self):
        test = doctest.DocTestParser().get_doctest(EXAMPLES, {}, "interface", None, 0)
        found = doctest.DocTestRunner(verbose=False).run(test)
        self.assertEqual(found.attempted, 36)
        self.assertEqual(found.failed, 0)

    def test_example_of_an_error(self):
        with self.assertRaises(RetryError) as raised:
            read_nesting("5x0")
        self.assertIs(type(raised.exception), Unreadable)
        self.assertEqual(raised.exception.value, "5x0")


class Package(unittest.TestCase):
    def test_files_of_the_interface(self):
        for file in [*FUNCTIONS, *CLASSES, "__init__"]:
            self.assertIn(file, module_names())

    def test_no_clock_no_random_numbers_no_files(self):
        for name in module_names():
            for module in imported(name):
                self.assertTrue(module == "math" or module.startswith("retrynest."), (name, module))

    def test_each_import_names_the_file_that_defines_it(self):
        for name in module_names():
            module = importlib.import_module("retrynest." + name if name != "__init__" else "retrynest")
            for found in vars(module).values():
                if inspect.isfunction(found) or inspect.isclass(found):
                    self.assertEqual(getattr(importlib.import_module(found.__module__), found.__name__), found)


class Errors(Raising):
    """Exactly the class that is named, with its value, for every error of the interface."""

    def test_each_error(self):
        bad = [[1], (2, 3), [4, -5], (1, 0)]
        negative = [1, 2, -3, -4]
        cases = [
            (InvalidWait, 2, lambda: nest(negative, [-1])),
            (InvalidWait, 2, lambda: nest([1], negative)),
            (TooManyAttempts, 10100, lambda: nest([1] * 99, [2] * 100)),
            (InvalidLayer, 2, lambda: attempts(bad)),
            (InvalidLayer, 2, lambda: flatten([*bad, (1, MANY)])),
            (TooManyAttempts, 3 * MANY, lambda: flatten([[1, 2], (1, MANY)])),
            (InvalidWait, 2, lambda: inner_numbers(negative)),
            (InvalidWait, 2, lambda: split(negative, 0)),
            (InvalidNumber, 3, lambda: split([1, 2, 1, 2, 1], 3)),
            (InvalidLayer, 2, lambda: normal_form(bad)),
            (InvalidWait, 2, lambda: is_unsplittable(negative)),
            (InvalidLayer, 2, lambda: same_policy(bad, [[-1]])),
            (InvalidLayer, 2, lambda: same_policy([], bad)),
            (InvalidLayer, 2, lambda: wait_at(bad, 0)),
            (InvalidNumber, 0, lambda: wait_at([[1]], 0)),
            (InvalidNumber, 2, lambda: wait_at([[1]], 2)),
            (InvalidLayer, 2, lambda: time_of(bad, -1)),
            (InvalidNumber, 2, lambda: time_of([[1]], 2)),
            (InvalidLayer, 2, lambda: first_attempt_from(bad, -1)),
            (InvalidNumber, -1, lambda: first_attempt_from([[1]], -1)),
            (InvalidLayer, 2, lambda: without_inner(bad, [[-1]])),
            (InvalidLayer, 2, lambda: without_inner([], bad)),
            (InvalidLayer, 2, lambda: without_outer(bad, [[-1]])),
            (InvalidLayer, 2, lambda: without_outer([], bad)),
            (InvalidLayer, 2, lambda: common_inner(bad, [[-1]])),
            (InvalidLayer, 2, lambda: common_inner([], bad)),
            (InvalidLayer, 2, lambda: power(bad, -1)),
            (InvalidNumber, -1, lambda: power([], -1)),
            (InvalidLayer, 2, lambda: root(bad, 0)),
            (InvalidNumber, 0, lambda: root([], 0)),
            (InvalidLayer, 2, lambda: commute(bad, [[-1]])),
            (InvalidLayer, 2, lambda: commute([], bad)),
            (InvalidNumber, 0, lambda: count_unsplittable(0, -1)),
            (InvalidNumber, -1, lambda: count_unsplittable(1, -1)),
            (InvalidLayer, 2, lambda: Runner(bad)),
            (InvalidNumber, -1, lambda: Runner([]).fail(-1)),
            (NoMoreAttempts, 1, lambda: Runner([[1]]).fail(2)),
            (InvalidLayer, 0, lambda: Runner([[1]]).wrap((1, 0))),
            (Unreadable, "1,-2", lambda: read_nesting("1,-2")),
        ]
        for error, value, call in cases:
            self.check(error, value, call)


class Together(unittest.TestCase):
    """What several files say of one nesting."""

    def test_ways_to_write_a_policy(self):
        for nesting in short_nestings(2):
            waits = flatten(nesting)
            self.assertEqual(waits, by_layers(nesting))
            form = normal_form(nesting)
            for other in [form, [waits], [*nesting, []], read_nesting(show_nesting(nesting)), power(nesting, 1)]:
                self.assertEqual(flatten(other), waits)
                self.assertEqual(attempts(other), len(waits) + 1)
                self.assertIs(same_policy(nesting, other), True)
                self.assertEqual(normal_form(other), form)
                self.assertEqual(Runner(other), Runner(nesting))
            self.assertEqual(read_nesting(show_nesting(form)), form)

    def test_parts_of_a_policy(self):
        for nesting in short_nestings(2):
            waits = flatten(nesting)
            for number in inner_numbers(waits):
                inner, outer = split(waits, number)
                self.assertEqual(nest(inner, outer), waits)
                self.assertEqual(without_inner(nesting, [inner]), normal_form([outer]))
                self.assertEqual(without_outer(nesting, [outer]), normal_form([inner]))
                self.assertEqual(common_inner(nesting, [inner]), normal_form([inner]))
            found = inner_numbers(waits)
            self.assertIs(is_unsplittable(waits), waits != [] and len(found) == 2)

    def test_attempts_of_a_policy(self):
        for nesting in short_nestings(2):
            runner = Runner(nesting)
            for layer in LAYERS:
                runner.wrap(layer)
            whole = [*nesting, *LAYERS]
            self.assertEqual(runner.left(), attempts(whole) - 1)
            step = max(runner.left() // 7, 1)
            while runner.left() >= step:
                runner.fail(step)
                self.assertEqual(runner.time(), time_of(whole, runner.attempt()))
                self.assertLessEqual(first_attempt_from(whole, runner.time()), runner.attempt())
                if runner.left():
                    self.assertEqual(runner.next_wait(), wait_at(whole, runner.attempt() + 1))

    def test_powers(self):
        for nesting in short_nestings(2):
            for times in [1, 2, 3]:
                found = power(nesting, times)
                self.assertEqual(root(found, times), normal_form(nesting))
                self.assertIs(commute(found, nesting), True)
                self.assertEqual(read_nesting(show_nesting(found)), found)


if __name__ == "__main__":
    unittest.main()
