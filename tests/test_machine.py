"""The constructor of machines, what machines tell, and when they are equal."""

import unittest

from lastprices.base import machines
from lastprices.base.machines import Machine
from lastprices.errors import InvalidMachine, InvalidText, UnknownName
from tests.values import (BLOCK, COUNT, NAMES_24, NAMES_25, NO_LETTERS, NO_NAMES, NO_PRICES, NO_STRINGS, can_be_key,
    shown, told_of)

NO_ENDS = [value for value in NO_STRINGS if value != ("a",)] + [
    "a", "ab", ("b", "a"), ("a", "a"), ("a", "b", "b"), ("a", "c", "b"), ["a", "b"], {"a": "b"}, ("A",), ("",),
    ("a", ""), ("abcdefghi",), ("a", None), (1, 2), ("a", 1), (("a",),), (["a"],), ({},), (BLOCK,), ("a b",),
    ("a" * 100001,), (True,), ("a", "\u00e9")]

NO_ARCS = [value for value in NO_STRINGS if value not in ({}, {("p", "a", "p"): 0})] + [
    "", "pap", (("p", "a", "p"), 0), [("p", "a", "p")], {"pap": 0}, {("p", "a"): 0}, {("p", "a", "p", "q"): 0},
    {(): 0}, {None: 0}, {0: 0}, {ValueError: 0}, {("p", "a", ("p",)): 0}, {("p", "a", "p"): 0, "first": ("p",)}]


class MachineTest(unittest.TestCase):
    def refused(self, *told):
        with self.assertRaises(InvalidMachine, msg=shown(told)):
            Machine(*told)

    def test_constants(self):
        self.assertEqual((machines.MAX_STATES, machines.MAX_PRICE), (24, 9))

    def test_what_it_tells(self):
        arcs = {("t", "b", "s"): 9, ("s", "a", "t"): 0, ("s", "a", "s"): 3, ("s", "c", "queue"): 1}
        machine = Machine(("s", "t"), ("t", "zz"), arcs)
        self.assertEqual(machine.firsts, ("s", "t"))
        self.assertEqual(machine.lasts, ("t", "zz"))
        self.assertEqual(machine.states, ("queue", "s", "t", "zz"))
        self.assertEqual(machine.letters, ("a", "b", "c"))
        self.assertEqual(machine.arcs, arcs)
        self.assertEqual(list(machine.arcs), [("s", "a", "s"), ("s", "a", "t"), ("s", "c", "queue"), ("t", "b", "s")])
        self.assertEqual(machine.lines, ("first s t", "last t zz", "arc s a 3 s", "arc s a 0 t", "arc s c 1 queue",
            "arc t b 9 s"))
        self.assertEqual(len(machine), 4)
        self.assertEqual(list(machine), list(machine.lines))
        self.assertEqual(str(machine), "machine with 4 states, 4 arcs")

    def test_lines_are_ascending_by_triples_and_not_by_themselves(self):
        machine = Machine(("s",), ("s",), {("s", "a", "t"): 0, ("s", "a", "s"): 9, ("sa", "a", "s"): 0, ("s", "z", "a"): 0})
        self.assertEqual(machine.lines[2:], ("arc s a 9 s", "arc s a 0 t", "arc s z 0 a", "arc sa a 0 s"))

    def test_without_arcs(self):
        machine = Machine(("a",), ("b",), {})
        self.assertEqual(told_of(machine), (("a",), ("b",), [], ("a", "b"), (), ("first a", "last b"), 2,
            ["first a", "last b"], "machine with 2 states, 0 arcs"))
        self.assertEqual(str(Machine(("a",), ("a",), {})), "machine with 1 states, 0 arcs")

    def test_kinds_of_what_it_tells(self):
        for value in (BLOCK.firsts, BLOCK.lasts, BLOCK.states, BLOCK.letters, BLOCK.lines, BLOCK.steps("p", "a")):
            self.assertIsInstance(value, tuple)
        self.assertIsInstance(BLOCK.arcs, dict)

    def test_equal_calls_return_equal_results(self):
        self.assertEqual(told_of(BLOCK), told_of(BLOCK))
        self.assertEqual(BLOCK.steps("p", "b"), BLOCK.steps("p", "b"))

    def test_states_up_to_24(self):
        self.assertEqual(len(Machine(NAMES_24, ("qa",), {})), 24)
        self.assertEqual(len(Machine(("qa",), NAMES_24, {})), 24)
        self.refused(NAMES_25, ("qa",), {})
        self.refused(("qa",), NAMES_25, {})
        self.refused(NAMES_24, ("r",), {})
        self.refused(("r",), NAMES_24, {})
        arcs = {(state, "a", state): 0 for state in NAMES_24}
        self.assertEqual(len(Machine(("qa",), ("qb",), arcs)), 24)
        self.refused(("r",), ("qb",), arcs)
        self.refused(("qa",), ("qb",), {**arcs, ("qa", "a", "r"): 0})
        self.refused(("qa",), ("qb",), {**arcs, ("r", "a", "qa"): 0})

    def test_prices_from_0_to_9(self):
        for price in range(10):
            self.assertEqual(Machine(("a",), ("a",), {("a", "a", "a"): price}).arcs, {("a", "a", "a"): price})
        for price in NO_PRICES:
            self.refused(("a",), ("a",), {("a", "a", "a"): price})

    def test_wrong_ends(self):
        for value in NO_ENDS:
            self.refused(value, ("a",), {})
            self.refused(("a",), value, {})

    def test_wrong_arcs(self):
        for value in NO_ARCS:
            self.refused(("a",), ("a",), value)

    def test_wrong_places_of_arcs(self):
        for value in NO_NAMES:
            if can_be_key(value):
                self.refused(("a",), ("a",), {(value, "a", "a"): 0})
                self.refused(("a",), ("a",), {("a", "a", value): 0})
        for value in NO_LETTERS:
            if can_be_key(value):
                self.refused(("a",), ("a",), {("a", value, "a"): 0})

    def test_one_wrong_arc_among_good_ones(self):
        good = {("a", "a", "a"): 0, ("a", "b", "a"): 1}
        self.refused(("a",), ("a",), {**good, ("a", "c", "a"): 10})
        self.refused(("a",), ("a",), {**good, ("a", "C", "a"): 1})

    def test_several_wrong_arguments(self):
        self.refused((), None, 0)
        self.refused(["a"], ("a",), {("a", "a", "a"): True})

    def test_names_of_eight_letters(self):
        machine = Machine(("abcdefgh",), ("z",), {("abcdefgh", "z", "stuvwxyz"): 9})
        self.assertEqual(machine.states, ("abcdefgh", "stuvwxyz", "z"))
        self.refused(("abcdefghi",), ("z",), {})

    def test_arcs_between_all_states(self):
        arcs = {(one, "m", other): 5 for one in NAMES_24 for other in NAMES_24}
        machine = Machine(NAMES_24, NAMES_24, arcs)
        self.assertEqual(str(machine), "machine with 24 states, 576 arcs")
        self.assertEqual(machine.steps("qc", "m"), tuple((name, 5) for name in NAMES_24))


class SharingTest(unittest.TestCase):
    def test_a_passed_dict_is_not_shared(self):
        arcs = {("b", "a", "a"): 2, ("a", "a", "a"): 1}
        machine = Machine(("a",), ("a",), arcs)
        before = told_of(machine)
        self.assertEqual(list(arcs.items()), [(("b", "a", "a"), 2), (("a", "a", "a"), 1)])
        arcs["a", "a", "a"] = 7
        arcs["c", "c", "c"] = 0
        del arcs["b", "a", "a"]
        self.assertEqual(told_of(machine), before)

    def test_a_told_dict_is_not_shared(self):
        machine = Machine(("a",), ("a",), {("a", "a", "a"): 1})
        before = told_of(machine)
        machine.arcs.clear()
        told = machine.arcs
        told["b", "b", "b"] = 3
        told["a", "a", "a"] = 3
        self.assertEqual(told_of(machine), before)
        self.assertEqual(machine.steps("a", "a"), (("a", 1),))

    def test_passed_names_and_ends_are_not_changed(self):
        names = {"r": "x", "p": "y", "q": "z"}
        before = told_of(BLOCK)
        changed = BLOCK.renamed(names)
        self.assertEqual(list(names.items()), [("r", "x"), ("p", "y"), ("q", "z")])
        told = told_of(changed)
        names.clear()
        self.assertEqual((told_of(BLOCK), told_of(changed)), (before, told))

    def test_unchanged_behind_changes_and_refusals(self):
        before = told_of(BLOCK)
        BLOCK.with_arc("p", "a", "p", 9).with_arc("x", "y", "z", 1)
        BLOCK.without_arc("p", "b", "q")
        BLOCK.renamed({"p": "q", "q": "r", "r": "p"})
        BLOCK.with_ends(firsts=("q",), lasts=("p", "q"))
        for call in (
                lambda: BLOCK.with_arc("p", "a", "p", 10),
                lambda: BLOCK.with_arc("P", "a", "p", 1),
                lambda: BLOCK.without_arc("p", "a", "q"),
                lambda: BLOCK.renamed({"p": "q"}),
                lambda: BLOCK.with_ends(firsts=(), lasts=("p",)),
                lambda: BLOCK.steps("x", "a"),
                lambda: BLOCK.steps("p", "A"),
                lambda: Machine(BLOCK.firsts, BLOCK.lasts, {**BLOCK.arcs, ("p", "a", "p"): 10})):
            with self.assertRaises((ValueError, KeyError)):
                call()
        self.assertEqual(told_of(BLOCK), before)


class EqualityTest(unittest.TestCase):
    def test_equal(self):
        twin = Machine(("p",), ("r",), dict(reversed(list(BLOCK.arcs.items()))))
        self.assertIs(twin == BLOCK, True)
        self.assertIs(twin != BLOCK, False)
        self.assertIs(BLOCK == BLOCK, True)

    def test_other_ends_or_arcs(self):
        for other in (
                COUNT,
                BLOCK.with_ends(firsts=("q",)),
                BLOCK.with_ends(lasts=("q",)),
                BLOCK.with_ends(firsts=BLOCK.lasts, lasts=BLOCK.firsts),
                BLOCK.with_arc("p", "a", "p", 1),
                BLOCK.with_arc("r", "a", "p", 1),
                BLOCK.without_arc("p", "a", "p")):
            self.assertIs(BLOCK == other, False, str(other))
            self.assertIs(other == BLOCK, False, str(other))
            self.assertIs(BLOCK != other, True, str(other))

    def test_every_value(self):
        for value in [*NO_STRINGS, "p", "first p", BLOCK.lines, list(BLOCK.lines), str(BLOCK), BLOCK.arcs,
                (BLOCK.firsts, BLOCK.lasts, BLOCK.arcs)]:
            if not isinstance(value, Machine):
                self.assertIs(BLOCK == value, False, shown(value))
                self.assertIs(value == BLOCK, False, shown(value))
                self.assertIs(BLOCK != value, True, shown(value))


class StepsTest(unittest.TestCase):
    def test_ascending_by_next_states(self):
        machine = Machine(("s",), ("s",), {("s", "a", "t"): 0, ("s", "a", "s"): 9, ("s", "a", "b"): 4, ("s", "b", "c"): 1,
            ("t", "a", "c"): 2})
        self.assertEqual(machine.steps("s", "a"), (("b", 4), ("s", 9), ("t", 0)))
        self.assertEqual(machine.steps("s", "b"), (("c", 1),))
        self.assertEqual(machine.steps("t", "a"), (("c", 2),))

    def test_without_arcs_there_are_none(self):
        self.assertEqual(BLOCK.steps("q", "z"), ())
        self.assertEqual(Machine(("a",), ("b",), {("a", "a", "b"): 1}).steps("b", "a"), ())

    def test_unknown_states(self):
        for value in [*NO_NAMES, "a", "s", "pp", "abcdefgh"]:
            with self.assertRaises(UnknownName, msg=shown(value)) as caught:
                BLOCK.steps(value, "a")
            self.assertIs(caught.exception.word, value)

    def test_wrong_letters(self):
        for value in NO_LETTERS:
            with self.assertRaises(InvalidText, msg=shown(value)):
                BLOCK.steps("p", value)

    def test_an_unknown_state_comes_ahead_of_a_wrong_letter(self):
        for value in NO_LETTERS:
            with self.assertRaises(UnknownName):
                BLOCK.steps("x", value)
