"""Tables that are found in blocks of rows, held against those that are found row by row."""

import random
import unittest
from contextlib import ExitStack
from unittest import mock

from lastprices.base.machines import Machine
from lastprices.errors import InvalidOperation, TooMany
from lastprices.read.combined import free
from lastprices.rows import blocks, spread, tables
from lastprices.rows.blocks import Blocks
from lastprices.rows.tables import Table
from tests.force import drawn_machines, rows_by_force, some_machines
from tests.test_counts import at_the_limit
from tests.test_tables import memory, told
from tests.values import BLOCK, NAMES_24

LETTERS = "abc"


def with_names_mixed(machine, seed):
    """The machine with other names of its states, in another order."""
    names = list(NAMES_24[:len(machine)])
    random.Random(seed).shuffle(names)
    renamed = dict(zip(machine.states, names))
    arcs = {(renamed[one], letter, renamed[other]): price for (one, letter, other), price in machine.arcs.items()}
    firsts, lasts = [tuple(sorted(renamed[state] for state in ends)) for ends in (machine.firsts, machine.lasts)]
    return Machine(firsts, lasts, arcs)


def turning(many, first):
    """A machine whose letters turn and exchange states, so that all sets of some size are reached."""
    arcs = {(NAMES_24[at - 1], "a", NAMES_24[at]): 0 for at in range(many)}
    arcs |= {(NAMES_24[at], "b", NAMES_24[{0: 1, 1: 0}.get(at, at)]): 0 for at in range(many)}
    return Machine(NAMES_24[:first], NAMES_24[:1], arcs)


def drawn_without_prices(seed, many, most):
    """A machine without prices, with three letters and few arcs."""
    drawn = random.Random(seed)
    places = [(one, letter, other) for one in NAMES_24[:many] for letter in LETTERS for other in NAMES_24[:many]]
    arcs = {place: 0 for place in drawn.sample(places, most)}
    return Machine(NAMES_24[:drawn.randrange(1, 3)], NAMES_24[many - 2:many], arcs)


def forced(most=None):
    """Where this is entered, all tables of machines without prices are found in blocks."""
    stack = ExitStack()
    stack.enter_context(mock.patch.object(tables, "MANY", 0))
    stack.enter_context(mock.patch.object(blocks, "PATIENCE", 10 ** 9))
    stack.enter_context(mock.patch.object(Blocks, "_are_few", return_value=True))
    if most is not None:
        for module in (blocks, spread):
            stack.enter_context(mock.patch.object(module, "MAX_TABLE", most))
    return stack


def one_by_one():
    """Where this is entered, no table is found in blocks."""
    return mock.patch.object(tables, "MANY", 10 ** 9)


class BlocksTest(unittest.TestCase):
    def machines(self):
        """Machines without prices."""
        small = [free(machine) for machine in [*some_machines(30), *drawn_machines(8, (3, 4, 5), "abz")]]
        memories = [with_names_mixed(memory(many), seed) for many in (2, 5, 7) for seed in range(4)]
        drawn = [drawn_without_prices(seed, many, 2 * many) for many in (6, 9) for seed in range(15)]
        return [*small, memory(6), *memories, turning(6, 3), turning(7, 2), *drawn]

    def test_against_rows_found_one_by_one(self):
        for machine in self.machines():
            with one_by_one():
                plain = told(Table(machine, 0))
            with forced():
                table = Table(machine, 0)
                self.assertEqual(told(table), plain, machine.lines)
            self.assertEqual(table.rows, tuple(sorted(rows_by_force(machine, 0))))
            self.assertEqual([table.wrong, table.is_good], [(), True])

    def test_steps_and_membership(self):
        for machine in self.machines():
            with one_by_one():
                plain = Table(machine, 2)
            with forced():
                table = Table(machine, 2)
            rows = set(plain.rows)
            many = len(machine)
            if many < 8:
                for number in range(2 ** many):
                    row = tuple((number >> at & 1) - 1 for at in range(many))
                    self.assertIs(row in table, row in rows)
            for row in plain.rows[:50]:
                for letter in machine.letters:
                    self.assertEqual(table.after(row, letter), plain.after(row, letter))
                    self.assertEqual(table.text_to(row), plain.text_to(row))
                for other in ((1,) + row[1:], (3,) + row[1:], row + (0,), row[1:], list(row), (True,) + row[1:], None):
                    self.assertIs(other in table, False, other)
                    for call in (table.text_to, lambda value: table.after(value, "a")):
                        with self.assertRaises(InvalidOperation):
                            call(other)

    def test_texts_are_told_behind_blocks(self):
        with forced():
            table = Table(BLOCK.with_arc("q", "a", "q", 0), 0)
            self.assertEqual([table.text_to(row) for row in table], ["", "b", "bb"])
        self.assertEqual([table.text_to(row) for row in table], ["", "b", "bb"])

    def test_limits(self):
        for machine in self.machines():
            many = len(rows_by_force(machine, 0))
            if many > 1:
                with forced(many):
                    self.assertEqual(len(Table(machine, 0)), many)
                with forced(many - 1):
                    with self.assertRaises(TooMany) as caught:
                        Table(machine, 0)
                    self.assertEqual(caught.exception.limit, many - 1)

    def test_the_limit_of_many_states(self):
        # The empty row is reached, too.
        with forced():
            self.assertEqual(len(Table(at_the_limit(), 0)), 20000)
            with self.assertRaises(TooMany):
                Table(at_the_limit().with_arc("ke", "z", "new", 0), 0)

    def test_where_it_is_given_up(self):
        # Behind any step, and at once.
        for patience in (-10 ** 9, *range(0, 200, 9)):
            for machine in (memory(8), with_names_mixed(memory(7), 3), turning(8, 4)):
                with one_by_one():
                    plain = told(Table(machine, 1))
                with forced(), mock.patch.object(blocks, "PATIENCE", patience):
                    self.assertEqual(told(Table(machine, 1)), plain)

    def test_large_tables(self):
        drawn = [drawn_without_prices(seed, 14, 25) for seed in range(6)]
        for machine in (memory(14), with_names_mixed(memory(13), 1), turning(14, 7), turning(24, 3), *drawn):
            with one_by_one():
                plain = Table(machine, 0)
            table = Table(machine, 0)
            self.assertEqual([table.rows, str(table)], [plain.rows, str(plain)])
            for row in table.rows[::91]:
                self.assertEqual([row in table, table.text_to(row)], [True, plain.text_to(row)])
                self.assertEqual([table.after(row, letter) for letter in machine.letters],
                    [plain.after(row, letter) for letter in machine.letters])

    def test_memories_are_found_in_blocks(self):
        with mock.patch.object(tables.Spread, "grow_fully", side_effect=AssertionError):
            self.assertEqual(len(Table(memory(15), 1)), 16384)
            with self.assertRaises(TooMany) as caught:
                Table(memory(16), 0)
            self.assertEqual(caught.exception.limit, 20000)

    def test_prices_are_never_found_in_blocks(self):
        machine = memory(6).with_arc("nb", "a", "nc", 1)
        with forced(), mock.patch.object(Blocks, "fill", side_effect=AssertionError):
            for cap in (0, 1, 3):
                self.assertEqual(Table(machine, cap).rows, tuple(sorted(rows_by_force(machine, cap))))
