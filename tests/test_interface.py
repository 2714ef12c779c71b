"""Where names are defined, and what classes have."""

import inspect
import unittest

from lastprices import errors
from lastprices.base import machines, words
from tests.values import BLOCK

DEFINED = {
    errors: ("PriceError", "InvalidMachine", "InvalidText", "InvalidPattern", "InvalidSquare", "InvalidCosts",
        "InvalidRow", "InvalidPaper", "InvalidOperation", "ParseError", "UnknownName", "NotTaken", "InvalidNumber",
        "NothingToUndo", "TooMany", "Unstable", "Refused"),
    words: ("is_integer", "is_count", "is_name", "is_letter", "is_text"),
    machines: ("Machine",),
}


class InterfaceTest(unittest.TestCase):
    def test_names_of_modules(self):
        self.assertEqual([module.__name__ for module in DEFINED],
            ["lastprices.errors", "lastprices.base.words", "lastprices.base.machines"])

    def test_defined_where_they_are_listed(self):
        for module, names in DEFINED.items():
            for name in names:
                self.assertEqual(getattr(module, name).__module__, module.__name__, name)

    def test_methods_stand_in_the_class_itself(self):
        for name in ("__init__", "from_lines", "steps", "with_arc", "without_arc", "renamed", "with_ends", "__len__",
                "__iter__", "__eq__", "__str__"):
            self.assertIn(name, vars(machines.Machine))
        self.assertEqual(machines.Machine.__bases__, (object,))

    def test_properties(self):
        for name in ("firsts", "lasts", "arcs", "states", "letters", "lines"):
            self.assertIsInstance(vars(machines.Machine)[name], property, name)
            with self.assertRaises(AttributeError, msg=name):
                setattr(BLOCK, name, ())

    def test_names_of_parameters(self):
        for function, told in (
                (machines.Machine, "(firsts, lasts, arcs)"),
                (machines.Machine.from_lines, "(*lines)"),
                (machines.Machine.steps, "(self, state, letter)"),
                (machines.Machine.with_arc, "(self, state, letter, later, price)"),
                (machines.Machine.without_arc, "(self, state, letter, later)"),
                (machines.Machine.renamed, "(self, names)"),
                (machines.Machine.with_ends, "(self, *, firsts=None, lasts=None)"),
                (words.is_integer, "(value)"),
                (words.is_count, "(value)"),
                (words.is_name, "(value)"),
                (words.is_letter, "(value)"),
                (words.is_text, "(value)")):
            self.assertEqual(str(inspect.signature(function)), told, function)

    def test_ends_are_passed_by_keyword_only(self):
        with self.assertRaises(TypeError):
            BLOCK.with_ends(("p",))

    def test_only_machines_are_iterated_over(self):
        self.assertEqual(list(iter(BLOCK)), list(BLOCK.lines))
        with self.assertRaises(TypeError):
            iter(errors.ParseError(1))
        with self.assertRaises(TypeError):
            BLOCK[0]
