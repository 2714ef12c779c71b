"""Machines from lines."""

import itertools
import unittest

from lastprices.base.machines import Machine
from lastprices.errors import InvalidMachine, ParseError
from tests.values import BLOCK, COUNT, NAMES_24, NAMES_25, NO_STRINGS, shown

GOOD = ("first s", "last s t", "arc s a 1 t")

NO_LINES = [
    "", " ", "first", "last", "arc", "first ", "last ", "arc ", "machine s", "s", "First s", "LAST s", "Arc s a 1 t",
    "firsts s", "lasts s", "arcs s a 1 t", "\n",
    "first t s", "last t s", "first s s", "last s s", "first s u t", "first s,t", "first 1", "first S", "first Queue",
    "first abcdefghi", "last abcdefghi", "first s \u00e9", "first s t1", "first -", "first ()",
    " first s", "first s ", "first  s", "first s  t", "first\ts", "first s\tt", "first s\n", "\nfirst s", "first\ns",
    "first s\nlast s", "first s\r", "first\u00a0s",
    "arc s a 1", "arc s a t", "arc s 1 t", "arc a 1 t", "arc s a 1 t u", "arc s a 1 t 1", "arc s a 1 1 t",
    " arc s a 1 t", "arc s a 1 t ", "arc  s a 1 t", "arc s  a 1 t", "arc s a  1 t", "arc s a 1  t", "arc s a 1 t\n",
    "arc\ts a 1 t", "arc s a\t1 t", "arc s a 1\tt",
    "arc s a -1 t", "arc s a 10 t", "arc s a 00 t", "arc s a 01 t", "arc s a +1 t", "arc s a -0 t", "arc s a 1.0 t",
    "arc s a x t", "arc s a  t", "arc s a 0x1 t", "arc s a 1_0 t", "arc s a \u00b2 t", "arc s a \u0661 t",
    "arc s a None t", "arc s a True t", "arc s a 100 t", "arc s a " + "9" * 61 + " t",
    "arc s A 1 t", "arc s ab 1 t", "arc s  1 t", "arc s 1 1 t", "arc s - 1 t", "arc s \u00e9 1 t", "arc S a 1 t",
    "arc s a 1 T", "arc abcdefghi a 1 t", "arc s a 1 abcdefghi", "arc 1 a 1 t", "arc s a 1 1", "arc a s t 1",
    "a" * 100001, "first " + "a" * 3994, "!" * 4000,
]


class LinesTest(unittest.TestCase):
    def fails_at(self, index, *lines):
        with self.assertRaises(ParseError, msg=shown(lines)) as caught:
            Machine.from_lines(*lines)
        self.assertEqual(caught.exception.number, index, shown(lines))
        self.assertIs(caught.exception.number.__class__, int)

    def refused(self, *lines):
        with self.assertRaises(InvalidMachine, msg=shown(lines)):
            Machine.from_lines(*lines)

    def test_in_any_order(self):
        told = Machine(("s",), ("s", "t"), {("s", "a", "t"): 1, ("t", "b", "s"): 0})
        for lines in itertools.permutations((*GOOD, "arc t b 0 s")):
            self.assertEqual(Machine.from_lines(*lines), told)
            self.assertEqual(Machine.from_lines(*lines).lines, ("first s", "last s t", "arc s a 1 t", "arc t b 0 s"))

    def test_lines_make_the_machine_again(self):
        for machine in (BLOCK, COUNT, Machine(("a",), ("b",), {}), Machine(NAMES_24, NAMES_24, {("qa", "a", "qb"): 9})):
            self.assertEqual(Machine.from_lines(*machine.lines), machine)
            self.assertEqual(Machine.from_lines(*machine), machine)

    def test_each_price(self):
        for price in range(10):
            self.assertEqual(Machine.from_lines("first s", "last s", f"arc s a {price} t").arcs, {("s", "a", "t"): price})

    def test_names_like_words_of_lines(self):
        machine = Machine.from_lines("first arc first last", "last first", "arc arc a 0 arc", "arc first a 1 last")
        self.assertEqual(machine.firsts, ("arc", "first", "last"))
        self.assertEqual(machine.arcs, {("arc", "a", "arc"): 0, ("first", "a", "last"): 1})

    def test_names_of_eight_letters(self):
        self.assertEqual(Machine.from_lines("first abcdefgh", "last abcdefgh").states, ("abcdefgh",))

    def test_what_is_no_line(self):
        for line in NO_LINES:
            self.fails_at(0, line, *GOOD)
            self.fails_at(3, *GOOD, line)

    def test_values_that_are_no_strings(self):
        for value in [*NO_STRINGS, GOOD, list(GOOD), ["first s"], b"first s"]:
            self.fails_at(0, value, *GOOD)
            self.fails_at(1, GOOD[0], value, *GOOD[1:])
            self.fails_at(3, *GOOD, value)

    def test_a_second_line_of_ends(self):
        self.fails_at(3, *GOOD, "first s")
        self.fails_at(3, *GOOD, "first t")
        self.fails_at(3, *GOOD, "last s t")
        self.fails_at(1, "last s", "last t", *GOOD)

    def test_a_second_line_for_an_arc(self):
        self.fails_at(3, *GOOD, "arc s a 1 t")
        self.fails_at(3, *GOOD, "arc s a 2 t")
        self.assertEqual(len(Machine.from_lines(*GOOD, "arc s a 1 s", "arc t a 1 t", "arc s b 1 t").arcs), 4)

    def test_the_first_wrong_line_is_told(self):
        self.fails_at(1, "first s", "x", "first s", "y", None)
        self.fails_at(2, "first s", "last s", "first t", "x")
        self.fails_at(0, None, "first s", "first s")

    def test_what_is_no_machine(self):
        self.refused()
        self.refused("first s")
        self.refused("last s")
        self.refused("arc s a 1 t")
        self.refused("first s", "arc s a 1 t")
        self.refused("last s", "arc s a 1 t")

    def test_a_wrong_line_comes_ahead_of_a_wrong_machine(self):
        self.fails_at(0, "x")
        self.fails_at(1, "arc s a 1 t", "arc s a 1 t")
        self.fails_at(1, "first " + " ".join(NAMES_25), "arc")

    def test_more_than_24_states_are_a_line_of_no_machine(self):
        many = " ".join(NAMES_24)
        self.assertEqual(Machine.from_lines("first " + many, "last " + many).firsts, NAMES_24)
        many = " ".join(NAMES_25)
        self.refused("first " + many, "last qa")
        self.refused("first qa", "last " + many)
        self.refused("first " + " ".join(NAMES_24), "last r")
        self.refused("first " + " ".join(NAMES_24), "last qa", "arc qa a 0 r")
        names = sorted(one + other + more for one in "abcdefghij" for other in "abcdefghij" for more in "abcdefghij")
        self.refused("first " + " ".join(names), "last qa")
        self.fails_at(0, "first " + " ".join(names[::-1]), "last qa")
