"""Where names are defined, and what classes have."""

import importlib
import inspect
import unittest

from lastprices import errors
from tests.values import BLOCK

FUNCTIONS = {
    "lastprices.base.words": (
        "is_integer(value)", "is_count(value)", "is_name(value)", "is_letter(value)", "is_text(value)"),
    "lastprices.read.prices": (
        "price_of(machine, text)", "is_taken(machine, text)", "runs_of(machine, text)", "cheapest(machine, text)",
        "is_cheapest(machine, text, value)", "run_price(machine, text, run)", "count_taken(machine, length)",
        "each_taken(machine, length)"),
    "lastprices.read.combined": (
        "choice(one, other)", "both(one, other)", "joined(one, other)", "turned(machine)", "free(machine)",
        "stepped(machine)", "pieces(machine)", "trimmed(machine)"),
    "lastprices.signs.squares": ("least_sign(*signs)", "greatest_sign(*signs)"),
    "lastprices.signs.patterns": ("is_pattern(value)",),
    "lastprices.signs.webs": ("is_web_of(machine, value)",),
    "lastprices.rows.tables": (
        "is_row(machine, cap, value)", "first_row(machine, cap)", "next_row(machine, cap, row, letter)",
        "row_of(machine, cap, text)", "price_in(machine, cap, row)"),
    "lastprices.decide.papers": (
        "is_limited(machine)", "last_price(machine)", "worst_text(machine)", "growing_pattern(machine)", "paper(machine)",
        "is_paper(machine, value)", "rows_from(machine, cap, rows)"),
    "lastprices.decide.dear": (
        "dear_text(machine, price)", "prices_of(machine, length)", "count_priced(machine, length, price)",
        "each_priced(machine, length, price)", "priced_at(machine, length, price, number)", "number_of(machine, text)",
        "dearest(machine, length)"),
    "lastprices.decide.rings": (
        "run_bound(machine)", "dear_ring(machine)", "is_dear_ring(machine, value)", "dearest_run(machine)",
        "is_deterministic(machine)", "is_unambiguous(machine)", "two_runs(machine)", "is_two_runs(machine, value)"),
    "lastprices.decide.alike": (
        "parting_text(one, other, *, up_to)", "are_alike_up_to(one, other, *, up_to)", "dearer_text(one, other, *, up_to)",
        "takes_less(one, other)", "takes_alike(one, other)", "are_alike(one, other)", "are_ordered(one, other)",
        "same_with(one, other, text)"),
    "lastprices.decide.powers": (
        "has_finite_power(machine)", "power(machine)", "split(machine, text)", "is_split(machine, text, value)",
        "least_pieces(machine, text)", "splits_of(machine, text)", "powers_taken(machine, text)"),
    "lastprices.text.texts": (
        "write_machine(machine)", "read_machine(text)", "write_row(row)", "read_row(text)", "write_square(rows)",
        "read_square(text)", "write_paper(paper)", "read_paper(text)"),
}

# For each class its module, its methods, its properties and what else it has.
CLASSES = {
    "Machine": (
        "lastprices.base.machines",
        ("__init__(self, firsts, lasts, arcs)", "from_lines(*lines)", "steps(self, state, letter)",
            "with_arc(self, state, letter, later, price)", "without_arc(self, state, letter, later)",
            "renamed(self, names)", "with_ends(self, *, firsts=None, lasts=None)", "__call__(self, text)"),
        ("firsts", "lasts", "arcs", "states", "letters", "lines"),
        ("__len__", "__iter__", "__eq__", "__str__", "__or__", "__add__", "__mul__", "__invert__", "__contains__")),
    "Costs": (
        "lastprices.signs.costs",
        ("__init__(self, rows)", "of_text(machine, text)", "powered(self, number)", "between(self, machine)"),
        ("rows", "signs"),
        ("__mul__", "__pow__", "__getitem__", "__len__", "__eq__", "__str__")),
    "Square": (
        "lastprices.signs.squares",
        ("__init__(self, rows)", "of_text(machine, text)", "repeated(self)", "between(self, machine)"),
        ("rows", "is_stable"),
        ("__mul__", "__getitem__", "__len__", "__eq__", "__str__")),
    "Pattern": (
        "lastprices.signs.patterns",
        ("__init__(self, text)", "length(self, n)", "square(self, machine)", "is_growing(self, machine)",
            "costs(self, machine, n)", "repeated(self)", "__call__(self, n)"),
        ("text", "letters", "depth", "parts", "weight"),
        ("__add__", "__len__", "__eq__", "__str__", "__contains__")),
    "Web": (
        "lastprices.signs.webs",
        ("__init__(self, machine)", "pattern_of(self, rows)"),
        ("machine", "squares", "stable", "growing", "letters"),
        ("__contains__", "__len__", "__iter__", "__eq__", "__str__")),
    "Table": (
        "lastprices.rows.tables",
        ("__init__(self, machine, cap)", "after(self, row, letter)", "text_to(self, row)"),
        ("machine", "cap", "rows", "wrong", "is_good", "start"),
        ("__contains__", "__len__", "__iter__", "__eq__", "__str__")),
    "Bench": (
        "lastprices.use.bench",
        ("__init__(self, machine)", "draw(self, line)", "erase(self, line)", "demand(self, pledge)", "waive(self, pledge)",
            "undo(self, *, many=1)", "redo(self, *, many=1)", "trial(self)", "during(self, call)", "twin(self)"),
        ("machine", "last", "pledges"),
        ("__contains__", "__len__", "__iter__", "__eq__", "__str__")),
    "Shell": (
        "lastprices.text.shell",
        ("__init__(self, text)", "answer(self, line)", "__call__(self, line)", "bench(self)"),
        (),
        ("__len__",)),
}

ERRORS = ("PriceError", "InvalidMachine", "InvalidText", "InvalidPattern", "InvalidSquare", "InvalidCosts", "InvalidRow",
    "InvalidPaper", "InvalidOperation", "ParseError", "UnknownName", "NotTaken", "InvalidNumber", "NothingToUndo",
    "TooMany", "Unstable", "Refused")

CONSTANTS = {
    "lastprices.base.words": {"MAX_LETTERS": 8, "MAX_FIGURES": 60, "MAX_TEXT": 100000},
    "lastprices.base.machines": {"MAX_STATES": 24, "MAX_PRICE": 9},
    "lastprices.read.prices": {"MAX_LENGTH": 200},
    "lastprices.signs.patterns": {"MAX_SIGNS": 20000, "MAX_DEPTH": 24},
    "lastprices.signs.webs": {"MAX_SQUARES": 3000},
    "lastprices.rows.tables": {"MAX_CAP": 200, "MAX_TABLE": 20000},
    "lastprices.use.bench": {"MAX_PLEDGES": 10},
}


def found(module, name):
    """What has a name in a module."""
    return getattr(importlib.import_module(module), name)


class InterfaceTest(unittest.TestCase):
    def test_errors_are_defined_where_they_are_listed(self):
        for name in ERRORS:
            self.assertEqual(getattr(errors, name).__module__, "lastprices.errors", name)

    def test_constants(self):
        for module, told in CONSTANTS.items():
            for name, value in told.items():
                self.assertEqual(found(module, name), value, name)

    def test_functions(self):
        for module, told in FUNCTIONS.items():
            for line in told:
                function = found(module, line.partition("(")[0])
                self.assertEqual(function.__module__, module, line)
                self.assertEqual(function.__name__ + str(inspect.signature(function)), line)

    def test_methods_stand_in_the_class_itself(self):
        for name, (module, methods, _, others) in CLASSES.items():
            kind = found(module, name)
            self.assertEqual([kind.__module__, kind.__bases__], [module, (object,)], name)
            for line in methods:
                method = line.partition("(")[0]
                self.assertIn(method, vars(kind), name)
                self.assertEqual(method + str(inspect.signature(getattr(kind, method))), line, name)
            for method in others:
                self.assertIn(method, vars(kind), name)

    def test_properties(self):
        for name, (module, _, properties, _) in CLASSES.items():
            for told in properties:
                self.assertIsInstance(vars(found(module, name))[told], property, told)
        for told in CLASSES["Machine"][2]:
            with self.assertRaises(AttributeError, msg=told):
                setattr(BLOCK, told, ())

    def test_ends_are_passed_by_keyword_only(self):
        with self.assertRaises(TypeError):
            BLOCK.with_ends(("p",))

    def test_what_is_iterated_over(self):
        self.assertEqual(list(iter(BLOCK)), list(BLOCK.lines))
        with self.assertRaises(TypeError):
            iter(errors.ParseError(1))
        with self.assertRaises(TypeError):
            BLOCK[0]
