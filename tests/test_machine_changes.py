"""Machines with other arcs, names or ends."""

import unittest

from lastprices.base.machines import Machine
from lastprices.errors import InvalidMachine, InvalidOperation, UnknownName
from tests.values import BLOCK, COUNT, NAMES_24, NO_LETTERS, NO_NAMES, NO_PRICES, NO_STRINGS, shown


class WithArcTest(unittest.TestCase):
    def refused(self, *told):
        with self.assertRaises(InvalidMachine, msg=shown(told)):
            BLOCK.with_arc(*told)

    def test_one_more_arc(self):
        machine = BLOCK.with_arc("r", "c", "p", 9)
        self.assertEqual(machine.arcs, {**BLOCK.arcs, ("r", "c", "p"): 9})
        self.assertEqual(list(machine.arcs), sorted(machine.arcs))
        self.assertEqual((machine.firsts, machine.lasts, machine.letters), (("p",), ("r",), ("a", "b", "c")))

    def test_new_states(self):
        machine = COUNT.with_arc("a", "a", "z", 0)
        self.assertEqual(machine.states, ("a", "c", "z"))
        self.assertEqual(machine.steps("a", "a"), (("z", 0),))

    def test_another_price(self):
        machine = BLOCK.with_arc("q", "a", "q", 0)
        self.assertEqual(machine.arcs, {**BLOCK.arcs, ("q", "a", "q"): 0})
        self.assertEqual(BLOCK.with_arc("q", "a", "q", 1), BLOCK)

    def test_wrong_arguments(self):
        for value in NO_NAMES:
            self.refused(value, "a", "p", 1)
            self.refused("p", "a", value, 1)
        for value in NO_LETTERS:
            self.refused("p", value, "p", 1)
        for value in NO_PRICES:
            self.refused("p", "a", "p", value)
        self.refused(["p"], "ab", None, 10)

    def test_more_than_24_states(self):
        machine = Machine(NAMES_24[:23], ("qa",), {})
        self.assertEqual(len(machine.with_arc("qa", "a", "r", 1)), 24)
        self.assertEqual(len(machine.with_arc("r", "a", "r", 1)), 24)
        for place in (("r", "a", "s"), ("s", "a", "r")):
            with self.assertRaises(InvalidMachine):
                machine.with_arc(*place, 1)


class WithoutArcTest(unittest.TestCase):
    def unknown(self, *place):
        with self.assertRaises(UnknownName, msg=shown(place)) as caught:
            BLOCK.without_arc(*place)
        self.assertIs(caught.exception.word.__class__, tuple)
        self.assertEqual(caught.exception.word, place)

    def test_one_arc_less(self):
        machine = BLOCK.without_arc("p", "b", "q")
        told = BLOCK.arcs
        del told["p", "b", "q"]
        self.assertEqual(machine.arcs, told)
        self.assertEqual((machine.firsts, machine.lasts, machine.states), (("p",), ("r",), ("p", "q", "r")))

    def test_states_that_are_gone(self):
        machine = Machine(("a",), ("b",), {("a", "a", "c"): 1, ("c", "a", "b"): 2, ("d", "b", "a"): 3})
        self.assertEqual(machine.without_arc("d", "b", "a").states, ("a", "b", "c"))
        self.assertEqual(machine.without_arc("a", "a", "c").states, ("a", "b", "c", "d"))
        self.assertEqual(machine.without_arc("a", "a", "c").without_arc("c", "a", "b").states, ("a", "b", "d"))

    def test_the_last_arc(self):
        machine = Machine(("a",), ("b",), {("a", "a", "b"): 1}).without_arc("a", "a", "b")
        self.assertEqual(machine, Machine(("a",), ("b",), {}))

    def test_undoes_with_arc(self):
        self.assertEqual(BLOCK.with_arc("x", "y", "z", 1).without_arc("x", "y", "z"), BLOCK)

    def test_no_such_arc(self):
        self.unknown("p", "a", "q")
        self.unknown("p", "c", "p")
        self.unknown("p", "b", "r")
        self.unknown("x", "a", "p")
        self.unknown("q", "b", "p")

    def test_wrong_arguments(self):
        for value in NO_NAMES:
            self.unknown(value, "a", "p")
            self.unknown("p", "a", value)
            self.unknown("p", value, "p")
        for value in NO_LETTERS:
            self.unknown("p", value, "p")
        self.unknown(["p"], {}, BLOCK)


class RenamedTest(unittest.TestCase):
    def refused(self, names):
        with self.assertRaises(InvalidOperation, msg=shown(names)):
            BLOCK.renamed(names)

    def test_other_names(self):
        machine = BLOCK.renamed({"r": "a", "p": "abcdefgh", "q": "b"})
        self.assertEqual(machine.lines, ("first abcdefgh", "last a", "arc a a 0 a", "arc a b 0 a", "arc abcdefgh a 0 abcdefgh",
            "arc abcdefgh b 0 abcdefgh", "arc abcdefgh b 0 b", "arc b a 1 b", "arc b b 0 a"))

    def test_ends_ascend_by_their_new_names(self):
        machine = Machine(("a", "b"), ("b", "c"), {}).renamed({"a": "z", "b": "y", "c": "x"})
        self.assertEqual((machine.firsts, machine.lasts, machine.states), (("y", "z"), ("x", "y"), ("x", "y", "z")))

    def test_names_can_be_exchanged_and_kept(self):
        machine = BLOCK.renamed({"p": "r", "q": "q", "r": "p"})
        self.assertEqual((machine.firsts, machine.lasts), (("r",), ("p",)))
        self.assertEqual(machine.renamed({"p": "r", "q": "q", "r": "p"}), BLOCK)
        self.assertEqual(BLOCK.renamed({"p": "p", "q": "q", "r": "r"}), BLOCK)

    def test_24_states(self):
        machine = Machine(NAMES_24, NAMES_24, {}).renamed({name: name[::-1] for name in NAMES_24})
        self.assertEqual(machine.states, tuple(sorted(name[::-1] for name in NAMES_24)))

    def test_other_keys_than_the_states(self):
        self.refused({})
        self.refused({"p": "x", "q": "y"})
        self.refused({"p": "x", "q": "y", "s": "z"})
        self.refused({"p": "x", "q": "y", "r": "z", "s": "u"})
        self.refused({"p": "x", "q": "y", "r": "z", None: "u"})
        self.refused({"p": "x", "q": "y", ("r",): "z"})
        self.refused({0: "x", 1: "y", 2: "z"})

    def test_equal_names(self):
        self.refused({"p": "x", "q": "x", "r": "z"})
        self.refused({"p": "r", "q": "q", "r": "r"})

    def test_wrong_names(self):
        for value in NO_NAMES:
            self.refused({"p": value, "q": "y", "r": "z"})
            self.refused({"p": "x", "q": "y", "r": value})

    def test_what_is_no_dict(self):
        for value in [*NO_STRINGS, "pqr", ("p", "q", "r"), (("p", "x"), ("q", "y"), ("r", "z")), BLOCK.states]:
            self.refused(value)


class WithEndsTest(unittest.TestCase):
    def test_other_ends(self):
        self.assertEqual(BLOCK.with_ends(), BLOCK)
        self.assertEqual(BLOCK.with_ends(firsts=None, lasts=None), BLOCK)
        machine = BLOCK.with_ends(firsts=("p", "q"))
        self.assertEqual((machine.firsts, machine.lasts, machine.arcs), (("p", "q"), ("r",), BLOCK.arcs))
        machine = BLOCK.with_ends(lasts=("q", "x"))
        self.assertEqual((machine.firsts, machine.lasts, machine.arcs), (("p",), ("q", "x"), BLOCK.arcs))
        self.assertEqual(machine.states, ("p", "q", "r", "x"))
        machine = BLOCK.with_ends(lasts=("p",), firsts=("r",))
        self.assertEqual((machine.firsts, machine.lasts, machine.arcs), (("r",), ("p",), BLOCK.arcs))

    def test_states_that_were_ends_only_are_gone(self):
        machine = Machine(("a",), ("b",), {("c", "a", "c"): 1})
        self.assertEqual(machine.with_ends(firsts=("c",)).states, ("b", "c"))
        self.assertEqual(machine.with_ends(lasts=("a",)).states, ("a", "c"))

    def test_wrong_ends(self):
        for value in [*NO_STRINGS, "p", "", ("q", "p"), ("p", "p"), ("P",), ("",), ("p", None), ["p"]]:
            if value is not None and value != ("a",):
                for told in ({"firsts": value}, {"lasts": value}, {"firsts": value, "lasts": ("p",)},
                        {"firsts": ("p",), "lasts": value}, {"firsts": value, "lasts": value}):
                    with self.assertRaises(InvalidMachine, msg=shown(told)):
                        BLOCK.with_ends(**told)

    def test_more_than_24_states(self):
        machine = Machine(NAMES_24, ("qa",), {("qa", "a", "qb"): 1})
        self.assertEqual(len(machine.with_ends(lasts=NAMES_24)), 24)
        with self.assertRaises(InvalidMachine):
            machine.with_ends(lasts=("r",))
        with self.assertRaises(InvalidMachine):
            machine.with_ends(firsts=NAMES_24[1:] + ("r",))
        self.assertEqual(len(machine.with_ends(firsts=("r",), lasts=("r",))), 3)
