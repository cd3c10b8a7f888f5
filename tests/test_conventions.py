"""Points 3 to 6 as far as they speak of what is there, and the interface of the modules that are there."""

import ast
import copy
import importlib
import inspect
import os
import unittest

import meankept
from meankept.errors import BadDeeds, BadNumber, BadRow, KeepError
from meankept.numbers import is_number, number
from meankept.rings import meet_power, ring_of, root, turner
from meankept.rows import beside, is_row, plain, sums, times_row, undone
from tests.helpers import any_values, nested

FOLDER = os.path.dirname(meankept.__file__)

INTERFACE = {
    "numbers": ["is_number(value)", "number(top, bottom)"],
    "rows": ["is_row(deeds, value)", "plain(deeds, row)", "undone(deeds, row)", "beside(deeds, one, other)",
             "times_row(deeds, row, many)", "sums(deeds, row)"],
    "rings": ["ring_of(deeds, row)", "turner(deeds, one, other)", "root(deeds, row)",
              "meet_power(deeds, one, other)"],
}

CALLS = [
    (is_number, ((3, 2),)), (number, (6, 4)), (is_row, (2, (1, -1))), (plain, (2, (1, -1, 2))),
    (undone, (2, (1, 2))), (beside, (2, (1, 2), (-2, 1))), (times_row, (2, (1, 2, -1), -3)),
    (sums, (2, (1, 2, 2))), (ring_of, (2, (2, 1, 1, -2))), (turner, (2, (1, 2), (2, 1))),
    (turner, (2, (1,), (-1,))), (root, (2, (2, 1, 1, -2))), (meet_power, (2, (1, 1), (-1, -1, -1))),
    (meet_power, (2, (1, 1), (2,))),
]


class InterfaceTest(unittest.TestCase):
    def test_names_and_arguments(self):
        for name, told in INTERFACE.items():
            module = importlib.import_module("meankept." + name)
            for line in told:
                function = getattr(module, line.split("(")[0])
                found = function.__name__ + str(inspect.signature(function))
                self.assertEqual(found, line)

    def test_each_is_defined_in_its_own_file(self):
        for name, told in INTERFACE.items():
            with open(os.path.join(FOLDER, name + ".py"), encoding="utf-8") as file:
                tree = ast.parse(file.read())
            defined = [node.name for node in tree.body if isinstance(node, ast.FunctionDef)]
            for line in told:
                self.assertIn(line.split("(")[0], defined)

    def test_the_package_has_its_init(self):
        self.assertTrue(os.path.exists(os.path.join(FOLDER, "__init__.py")))


class CallsTest(unittest.TestCase):
    def test_by_position_by_name_and_mixed(self):
        for function, given in CALLS:
            names = list(inspect.signature(function).parameters)
            right = function(*given)
            for many in range(len(given) + 1):
                rest = dict(zip(names[many:], given[many:]))
                self.assertEqual(function(*given[:many], **rest), right)
                backward = dict(reversed(list(rest.items())))
                self.assertEqual(function(*given[:many], **backward), right)

    def test_equal_arguments_give_equal_results(self):
        for function, given in CALLS:
            self.assertEqual(function(*given), function(*copy.deepcopy(given)))
            self.assertEqual(repr(function(*given)), repr(function(*given)))

    def test_what_is_passed_in_is_never_changed(self):
        for value in any_values()[:-1] + [[1, -1], [(1, -1)], {(1,): [2]}]:
            elder = copy.deepcopy(value)
            is_row(2, value)
            is_number(value)
            for call in (lambda: plain(2, value), lambda: number(value, 1)):
                try:
                    call()
                except KeepError:
                    pass
            self.assertEqual(value, elder)

    def test_only_what_is_told_is_returned(self):
        kinds = {is_number: bool, is_row: bool, number: tuple}
        for function, given in CALLS:
            self.assertIs(type(function(*given)), kinds.get(function, tuple))


class ValuesTest(unittest.TestCase):
    def test_tuples_are_needed_at_every_depth(self):
        for value in ([1, 2], [], "12", {1: 2}, ([1, 2],)):
            self.assertIs(is_row(2, value), False)
            self.assertIs(is_number(value), False)
            for function in (plain, undone, sums, ring_of, root):
                with self.assertRaises(BadRow):
                    function(2, value)
            for function in (beside, turner, meet_power):
                with self.assertRaises(BadRow):
                    function(2, value, (1,))
                with self.assertRaises(BadRow):
                    function(2, (1,), value)

    def test_truths_are_no_wholes(self):
        for truth in (True, False):
            self.assertIs(is_number(truth), False)
            self.assertIs(is_row(1, (truth,)), False)
            for call in (lambda: number(truth, 1), lambda: number(1, truth),
                         lambda: times_row(1, (1,), truth)):
                with self.assertRaises(BadNumber):
                    call()
            for function in (plain, undone, sums, ring_of, root):
                with self.assertRaises(BadDeeds):
                    function(truth, ())
                with self.assertRaises(BadRow):
                    function(1, (1, truth))

    def test_deep_values(self):
        for depth in (1, 2, 39, 40):
            self.assertIs(is_row(2, nested(depth)), False)
            self.assertIs(is_number(nested(depth)), False)
            with self.assertRaises(BadRow):
                plain(2, nested(depth))
            with self.assertRaises(BadDeeds):
                plain(nested(depth), nested(depth))

    def test_wholes_of_many_digits(self):
        most = 10 ** 30 - 1
        for deeds in (most, -most):
            with self.assertRaises(BadDeeds):
                is_row(deeds, ())
        self.assertIs(is_row(4, (most,)), False)
        self.assertIs(is_row(4, (-most,)), False)
        with self.assertRaises(BadNumber):
            times_row(4, (1,), most)
        self.assertEqual(number(most, -most), -1)
        self.assertIs(is_number(most), True)

    def test_long_lists_and_strings(self):
        for value in ([1] * 2000, (1,) * 2000, "a" * 20000):
            self.assertIs(is_row(2, value), False)
            self.assertIs(is_number(value), False)


if __name__ == "__main__":
    unittest.main()
