"""Points 1 and 2: how everything is imported and called, and what stays as it was."""

import importlib
import inspect
import unittest
from copy import deepcopy

from tests.interface import BOOK_ARGUMENTS, BOOK_METHODS, INTERFACE, calls
from wordsquares import alike
from wordsquares.book import FormBook


def lists_in(value):
    """All list objects within a value, itself included, as often as they occur."""
    found = [value] if isinstance(value, list) else []
    if isinstance(value, (list, tuple)):
        for item in value:
            found.extend(lists_in(item))
    return found


def kinds_in(value):
    """The classes of all objects within a value."""
    found = {type(value)}
    if isinstance(value, (list, tuple)):
        for item in value:
            found |= kinds_in(item)
    return found


def spoil(value):
    """Change all lists within a value."""
    for found in lists_in(value):
        found.append("spoilt")
        found[0] = "spoilt"


def same(one, other):
    """Whether two values are equal, and of the same kinds down to the last item."""
    if type(one) is not type(other):
        return False
    if isinstance(one, (list, tuple)):
        return len(one) == len(other) and all(same(left, right) for left, right in zip(one, other))
    return one == other


class Interface(unittest.TestCase):

    def test_each_name_stands_in_its_module_with_its_arguments(self):
        for module, names in INTERFACE.items():
            for name, arguments in names.items():
                found = getattr(importlib.import_module(module), name)
                self.assertEqual(found.__module__, module, name)
                self.assertEqual(found.__name__, name)
                self.assertEqual(list(inspect.signature(found).parameters), arguments.split(), name)

    def test_no_argument_can_be_left_out(self):
        for module, names in INTERFACE.items():
            for name in names:
                found = getattr(importlib.import_module(module), name)
                for parameter in inspect.signature(found).parameters.values():
                    self.assertIs(parameter.default, inspect.Parameter.empty, name)
                    self.assertEqual(parameter.kind, inspect.Parameter.POSITIONAL_OR_KEYWORD, name)

    def test_the_book_has_its_methods_with_their_arguments_in_its_own_body(self):
        self.assertEqual(FormBook.__module__, "wordsquares.book")
        self.assertEqual(list(inspect.signature(FormBook).parameters), BOOK_ARGUMENTS.split())
        self.assertIn("__eq__", vars(FormBook))
        for name, arguments in BOOK_METHODS.items():
            self.assertIn(name, vars(FormBook))
            parameters = inspect.signature(vars(FormBook)[name]).parameters
            self.assertEqual(list(parameters), ["self"] + arguments.split(), name)
            for parameter in parameters.values():
                self.assertIs(parameter.default, inspect.Parameter.empty, name)
                self.assertIs(parameter.kind, inspect.Parameter.POSITIONAL_OR_KEYWORD, name)

    def test_each_function_is_called_here(self):
        called = {(function.__module__, function.__name__) for function, _, _ in calls()}
        listed = {(module, name) for module, names in INTERFACE.items() for name in names}
        self.assertEqual(called, listed)


class Calls(unittest.TestCase):

    def test_by_position(self):
        for function, arguments, result in calls():
            self.assertTrue(same(function(*arguments.values()), result), function.__name__)

    def test_by_name(self):
        for function, arguments, result in calls():
            self.assertTrue(same(function(**arguments), result), function.__name__)

    def test_by_name_in_another_order(self):
        for function, arguments, result in calls():
            turned = dict(reversed(list(arguments.items())))
            self.assertTrue(same(function(**turned), result), function.__name__)

    def test_arguments_stay_as_they_were(self):
        for function, arguments, _ in calls():
            before = deepcopy(arguments)
            function(**arguments)
            self.assertTrue(same(list(arguments.values()), list(before.values())), function.__name__)

    def test_no_list_occurs_twice_in_a_result_or_is_an_argument(self):
        for function, arguments, _ in calls():
            found = lists_in(function(**arguments)) + lists_in(list(arguments.values()))
            self.assertEqual(len(found), len({id(item) for item in found}), function.__name__)

    def test_one_list_in_two_arguments_is_no_list_of_the_result(self):
        row = [0, 0]
        form = [row, row]
        for function, arguments, _ in calls():
            if {"one", "other"} <= set(arguments) and function.__module__ != "wordsquares.relations":
                value = [[1, 2], [0, 1]] if function.__name__ == "joined" else form
                if function.__module__ in ("wordsquares.pieces", "wordsquares.roads"):
                    value = [(0, 1)]
                found = lists_in(function(**{**arguments, "one": value, "other": value}))
                self.assertEqual(len(found), len({id(item) for item in found}), function.__name__)
                self.assertFalse([item for item in found if item is row or item is value])

    def test_one_list_several_times_in_a_list_of_forms(self):
        form = [[1, 0], [0, 3]]
        for found in (alike.grouped([form, form, [[1, 0], [0, 1]], form]), alike.grouped_at(3, [form] * 4)):
            self.assertEqual(len(lists_in(found)), len({id(item) for item in lists_in(found)}))

    def test_changing_a_result_has_no_effect(self):
        for function, arguments, result in calls():
            spoil(function(**arguments))
            self.assertTrue(same(function(**arguments), result), function.__name__)

    def test_changing_an_argument_has_no_effect_on_the_result(self):
        for function, arguments, result in calls():
            arguments = deepcopy(arguments)
            told = function(**arguments)
            spoil(list(arguments.values()))
            self.assertTrue(same(told, result), function.__name__)

    def test_equal_arguments_have_equal_results_whatever_lies_between(self):
        first = [function(**arguments) for function, arguments, _ in calls()]
        second = [function(**arguments) for function, arguments, _ in reversed(calls())]
        self.assertTrue(same(first, second[::-1]))

    def test_results_are_made_of_the_promised_kinds(self):
        for function, arguments, _ in calls():
            kinds = kinds_in(function(**arguments))
            self.assertLessEqual(kinds, {type(None), bool, int, str, list, tuple}, function.__name__)


if __name__ == "__main__":
    unittest.main()
