"""Rows and tables of machines."""

import unittest
from unittest import mock

from lastprices.base.machines import Machine
from lastprices.errors import InvalidMachine, InvalidNumber, InvalidOperation, InvalidRow, InvalidText, TooMany
from lastprices.rows import codes, spread, tables
from lastprices.rows.tables import Table, first_row, is_row, next_row, price_in, row_of
from tests.force import drawn_machines, least_price, some_machines, texts_up_to, ways_along
from tests.values import (BLOCK, COUNT, NAMES_24, NO_LETTERS, NO_MACHINES, NO_NUMBERS, NO_STRINGS, NO_TEXTS, check_judge,
    check_refused, shown, told_of)

ODD = Machine.from_lines("first s", "last t", "arc s a 3 t", "arc t a 0 s")

# Values that are no rows of BLOCK, capped at 3.
NO_ROWS = NO_STRINGS + [
    "", "000", "a", (0, 0), (0, 0, 0, 0), [0, 0, 0], (-2, 0, 0), (0, 0, 5), (0, 5, 0), (0, 0, 201), (True, 0, 0), (0, 0, False),
    (0, None, 0), (0, "0", 0), (0, 0, 10 ** 60), (0, 0, -(10 ** 99)), (0, 0, (0,)), (0, [0], 0), ((0, 0, 0),), {0: 0, 1: 0, 2: 0},
    (BLOCK, 0, 0), ({}, 0, 0)]


def row_by_force(machine, cap, text):
    """The row of a text, by all ways along it."""
    ways = [(way[-1], price) for way, price in ways_along(machine, text).items() if way[0] in machine.firsts]
    return tuple(min([min(price, cap + 1) for last, price in ways if last == state], default=-1)
        for state in machine.states)


def many_rows(dear, dead):
    """A machine with loops only: those of some letters get dearer, those of others are taken away by their letter."""
    letters = "abcdefghijkl"[:dear + dead]
    arcs = {}
    for at, own in enumerate(letters):
        for letter in letters:
            if letter != own or at < dear:
                arcs[NAMES_24[at], letter, NAMES_24[at]] = int(letter == own)
    return Machine(NAMES_24[:dear + dead], NAMES_24[:dear + dead], arcs)


def memory(many):
    """A machine with so many states that remembers where in the last letters `a` stood."""
    names = ["n" + letter for letter in "abcdefghijklmnopqrstuvwx"[:many]]
    arcs = {("na", "a", "na"): 0, ("na", "b", "na"): 0, ("na", "a", "nb"): 0}
    for one, other in zip(names[1:], names[2:]):
        arcs[one, "a", other] = arcs[one, "b", other] = 0
    return Machine(("na",), ("na",), arcs)


def table_by_steps(machine, cap):
    """A dict from all rows to the first ones of the shortest texts to them, and one of all steps, by plain steps."""
    arcs = machine.arcs
    start = tuple(0 if state in machine.firsts else -1 for state in machine.states)
    texts, steps, waiting = {start: ""}, {}, [start]
    for row in waiting:
        for letter in machine.letters:
            prices = [min([row[at] + arcs[one, letter, other] for at, one in enumerate(machine.states)
                if row[at] >= 0 and (one, letter, other) in arcs], default=-1) for other in machine.states]
            later = tuple(min(price, cap + 1) for price in prices)
            steps[row, letter] = later
            if later not in texts:
                texts[later] = texts[row] + letter
                waiting.append(later)
    return texts, steps


def told(table):
    """All that a table tells of itself."""
    return (table.machine.lines, table.cap, table.rows, table.wrong, table.is_good, table.start, len(table), list(table),
        str(table), [table.text_to(row) for row in table])


class RowsTest(unittest.TestCase):
    def test_against_all_ways(self):
        for machine in some_machines(40):
            for cap in (0, 1, 3, 200):
                self.assertEqual(first_row(machine, cap), row_by_force(machine, cap, ""))
                for text in texts_up_to("ab", 4) + ["c", "acb"]:
                    row = row_of(machine, cap, text)
                    self.assertEqual(row, row_by_force(machine, cap, text), (machine.lines, cap, text))
                    self.assertIs(is_row(machine, cap, row), True)
                    price = least_price(machine, text)
                    self.assertEqual(price_in(machine, cap, row), None if price is None else min(price, cap + 1))
                    for letter in "abz":
                        self.assertEqual(next_row(machine, cap, row, letter), row_by_force(machine, cap, text + letter))

    def test_which_rows_there_are(self):
        good = [(0, 0, 0), (-1, -1, -1), (4, 4, 4), (0, 4, -1), (3, 2, 1)]
        check_judge(self, lambda value: is_row(BLOCK, 3, value), good, NO_ROWS)
        check_judge(self, lambda value: is_row(COUNT, 0, value), [(-1,), (0,), (1,)],
            [value for value in NO_ROWS + [(2,), (-2,), (True,), (10 ** 60,), (None,)] if value != (1,)])
        check_judge(self, lambda value: is_row(COUNT, 200, value), [(201,), (200,)], [(202,), (-2,)])

    def test_rows_that_no_text_has(self):
        self.assertEqual(next_row(BLOCK, 3, (4, 4, 4), "b"), (4, 4, 4))
        self.assertEqual(next_row(BLOCK, 3, (4, 3, 2), "a"), (4, 4, 2))
        self.assertEqual(next_row(BLOCK, 3, (-1, 3, 2), "b"), (-1, -1, 2))
        self.assertEqual(next_row(BLOCK, 3, (-1, -1, -1), "b"), (-1, -1, -1))
        self.assertEqual(next_row(BLOCK, 3, (0, 0, 0), "z"), (-1, -1, -1))

    def test_prices_in_rows(self):
        machine = Machine(("a",), ("a", "c"), {("b", "a", "b"): 1})
        for row, price in (((3, 0, 2), 2), ((-1, 0, 2), 2), ((-1, 0, -1), None), ((4, 0, -1), 4), ((4, 0, 4), 4),
                ((0, -1, 4), 0), ((-1, -1, -1), None)):
            self.assertEqual(price_in(machine, 3, row), price)

    def test_prices_beyond_the_cap(self):
        for cap in (0, 1, 9, 199, 200):
            self.assertEqual(row_of(COUNT, cap, "b" * cap), (cap,))
            self.assertEqual(row_of(COUNT, cap, "b" * (cap + 1)), (cap + 1,))
            self.assertEqual(row_of(COUNT, cap, "b" * (cap + 2)), (cap + 1,))
            self.assertEqual(next_row(COUNT, cap, (cap + 1,), "b"), (cap + 1,))

    def test_long_texts(self):
        self.assertEqual(row_of(COUNT, 200, "a" * 99800 + "b" * 200), (200,))
        self.assertEqual(row_of(BLOCK, 200, "b" + "a" * 99998 + "b"), (0, 0, 201))
        every = {(one, letter, other): 1 for one in NAMES_24 for other in NAMES_24 for letter in "ab"}
        self.assertEqual(row_of(Machine(NAMES_24, NAMES_24, every), 200, "ab" * 50000), (201,) * 24)

    def test_wrong_machines_and_caps(self):
        self.assertEqual((tables.MAX_CAP, tables.MAX_TABLE), (200, 20000))
        calls = [lambda machine, cap: is_row(machine, cap, None), first_row, Table,
            lambda machine, cap: next_row(machine, cap, None, None), lambda machine, cap: next_row(machine, cap, (0,), "a"),
            lambda machine, cap: row_of(machine, cap, None), lambda machine, cap: price_in(machine, cap, None),
            lambda machine, cap: price_in(machine, cap, (0,))]
        for call in calls:
            check_refused(self, InvalidMachine, [lambda value: call(value, 0), lambda value: call(value, -1)], NO_MACHINES)
            check_refused(self, InvalidNumber, [lambda value: call(COUNT, value)], NO_NUMBERS)

    def test_wrong_rows(self):
        check_refused(self, InvalidRow, [lambda value: next_row(BLOCK, 3, value, "a"),
            lambda value: next_row(BLOCK, 3, value, None), lambda value: price_in(BLOCK, 3, value)], NO_ROWS)

    def test_wrong_letters_and_texts(self):
        check_refused(self, InvalidText, [lambda value: next_row(BLOCK, 3, (0, 0, 0), value)], NO_LETTERS)
        check_refused(self, InvalidText, [lambda value: row_of(BLOCK, 3, value)], NO_TEXTS)


class TableTest(unittest.TestCase):
    def test_against_rows_made_letter_by_letter(self):
        for machine in some_machines(40):
            for cap in (0, 1, 4):
                texts = {first_row(machine, cap): ""}
                for row, text in (waiting := list(texts.items())):
                    for letter in machine.letters:
                        later = next_row(machine, cap, row, letter)
                        if later not in texts:
                            texts[later] = text + letter
                            waiting.append((later, text + letter))
                table = Table(machine, cap)
                wrong = tuple(row for row in sorted(texts) if price_in(machine, cap, row) == cap + 1)
                self.assertEqual([table.rows, table.wrong], [tuple(sorted(texts)), wrong])
                self.assertEqual([table.machine, table.cap, table.start], [machine, cap, first_row(machine, cap)])
                self.assertIs(table.is_good, wrong == ())
                self.assertEqual([len(table), list(table)], [len(texts), sorted(texts)])
                self.assertEqual(str(table), f"table of {len(texts)} rows up to {cap}, {len(wrong)} wrong")
                for row in texts:
                    self.assertEqual(table.text_to(row), texts[row])
                    self.assertIs(row in table, True)
                    for letter in machine.letters:
                        self.assertEqual(table.after(row, letter), next_row(machine, cap, row, letter))

    def test_the_first_one_of_the_shortest_texts(self):
        for machine in some_machines(30):
            table = Table(machine, 2)
            first = {}
            for text in texts_up_to(machine.letters, 5):
                first.setdefault(row_of(machine, 2, text), text)
            for row, text in first.items():
                self.assertEqual(table.text_to(row), text, (machine.lines, row))
        self.assertEqual(Table(COUNT, 200).text_to((201,)), "b" * 201)

    def test_without_letters(self):
        table = Table(Machine(("s",), ("t",), {}), 0)
        self.assertEqual(told(table), (("first s", "last t"), 0, ((0, -1),), (), True, (0, -1), 1, [(0, -1)],
            "table of 1 rows up to 0, 0 wrong", [""]))

    def test_machines_without_a_price_in_a_row(self):
        nothing = Machine(("a",), ("b",), {("a", "a", "a"): 1, ("b", "b", "b"): 1})
        table = Table(nothing, 1)
        self.assertEqual([table.rows, table.wrong, table.is_good], [((-1, -1), (0, -1), (1, -1), (2, -1)), (), True])
        self.assertEqual([price_in(nothing, 1, row) for row in table], [None] * 4)

    def test_rows_that_are_none_of_it(self):
        table = Table(COUNT, 1)
        self.assertEqual(table.rows, ((0,), (1,), (2,)))
        for value in NO_STRINGS + [(-1,), (3,), [0], (True,), (False,), (0, 0), "0", "b", (10 ** 60,), ((0,),), table.rows]:
            self.assertIs(value in table, False, shown(value))
            for call in (table.text_to, lambda value: table.after(value, "a"), lambda value: table.after(value, None)):
                with self.assertRaises(InvalidOperation, msg=shown(value)):
                    call(value)
        self.assertIs((0,) in table, True)

    def test_letters_of_the_machine_only(self):
        table = Table(BLOCK, 1)
        check_refused(self, InvalidText, [lambda value: table.after(table.start, value)], NO_LETTERS + ["c", "z"])

    def test_just_20000_rows(self):
        # 25 * 25 * 2 * 2 * 2 * 2 * 2 of them.
        machine = many_rows(2, 5)
        table = Table(machine, 23)
        self.assertEqual([len(table), len(table.wrong), table.rows[0]], [20000, 1, (0, 0, -1, -1, -1, -1, -1)])
        self.assertEqual(table.wrong, ((24, 24, -1, -1, -1, -1, -1),))
        self.assertEqual(table.text_to((2, 1, 0, -1, 0, 0, -1)), "aabdg")
        # The new letter leads away from all states, to the only other row.
        with self.assertRaises(TooMany) as caught:
            Table(machine.with_arc("x", "z", "x", 0), 23)
        self.assertEqual(caught.exception.limit, 20000)
        for cap in (24, 200):
            with self.assertRaises(TooMany):
                Table(machine, cap)

    def test_many_rows_of_memories(self):
        machine = memory(15)
        table = Table(machine, 1)
        self.assertEqual([str(table), table.wrong, table.is_good], ["table of 16384 rows up to 1, 0 wrong", (), True])
        # Any set of the letters that are remembered can come about.
        rows = tuple((0,) + tuple(-(number >> (13 - at) & 1) for at in range(14)) for number in range(2 ** 14))
        self.assertEqual(table.rows, tuple(sorted(rows)))
        self.assertEqual(list(table), list(table.rows))
        texts, steps = table_by_steps(machine, 1)
        self.assertEqual(len(texts), 16384)
        for row in table.rows[::37]:
            self.assertIs(row in table, True)
            self.assertEqual(table.text_to(row), texts[row])
            self.assertEqual([table.after(row, letter) for letter in "ab"], [steps[row, letter] for letter in "ab"])
        for row in ((-1,) * 15, (1,) + (-1,) * 14, (0,) * 14 + (1,), (0,) * 16, (0,) * 14):
            self.assertIs(row in table, False)

    def test_too_many_rows_of_memories(self):
        for many in (16, 17, 24):
            for cap in (0, 1, 200):
                with self.assertRaises(TooMany) as caught:
                    Table(memory(many), cap)
                self.assertEqual(caught.exception.limit, 20000)
        self.assertEqual(len(Table(memory(14), 200)), 8192)

    def test_against_plain_steps(self):
        for machine in drawn_machines(25, (1, 2, 3, 4)) + drawn_machines(6, (3, 4), "acz"):
            for cap in range(7):
                texts, steps = table_by_steps(machine, cap)
                if len(texts) > 1000:
                    continue
                table = Table(machine, cap)
                self.assertEqual([table.rows, len(table), list(table)], [tuple(sorted(texts)), len(texts), sorted(texts)])
                prices = {row: min([price for state, price in zip(machine.states, row) if state in machine.lasts and price >= 0],
                    default=None) for row in texts}
                self.assertEqual(table.wrong, tuple(row for row in sorted(texts) if prices[row] == cap + 1))
                self.assertIs(table.is_good, cap + 1 not in prices.values())
                self.assertEqual([str(table), table.start], [f"table of {len(texts)} rows up to {cap}, {len(table.wrong)} wrong",
                    first_row(machine, cap)])
                for row in texts:
                    self.assertIs(row in table, True)
                    self.assertEqual(table.text_to(row), texts[row], (machine.lines, cap, row))
                    for letter in machine.letters:
                        self.assertEqual(table.after(row, letter), steps[row, letter])
                for row in list(texts)[:20]:
                    for other in ((cap + 2,) + row[1:], (-2,) + row[1:], row + (0,), row[1:], list(row), (True,) + row[1:]):
                        self.assertIs(other in table, False, other)

    def test_rows_that_go_on_alike(self):
        # The states `x` and `y` are left by no arcs, so rows that differ only there go on alike.
        with mock.patch.object(spread, "FEW", 0), mock.patch.object(codes, "FEW", 0):
            for machine in [*drawn_machines(12, (1, 2, 3)), memory(6), BLOCK]:
                names = machine.states
                more = machine.with_arc(names[0], "a", "x", 0).with_arc(names[-1], "b", "y", 1).with_arc(names[0], "c", "x", 2)
                for told_of_it in (machine, more, more.with_ends(firsts=("x", "y")), more.with_ends(lasts=("x", "y"))):
                    for cap in (0, 2, 4):
                        texts, steps = table_by_steps(told_of_it, cap)
                        table = Table(told_of_it, cap)
                        self.assertEqual(table.rows, tuple(sorted(texts)))
                        self.assertEqual([table.text_to(row) for row in texts], list(texts.values()))
                        for row, letter in steps:
                            self.assertEqual(table.after(row, letter), steps[row, letter])

    def test_equality(self):
        table = Table(COUNT, 1)
        for value in [*NO_STRINGS, Table(COUNT, 2), Table(BLOCK, 1), table.rows, str(table)]:
            told = isinstance(value, Table) and (value.machine, value.cap) == (COUNT, 1)
            self.assertIs(table == value, told, shown(value))
            self.assertIs(value == table, told, shown(value))
            self.assertIs(table != value, not told, shown(value))
        self.assertIs(Table(COUNT, 2) == Table(COUNT, 1), False)
        self.assertIs(Table(COUNT, 1) == Table(COUNT.with_arc("c", "b", "c", 2), 1), False)
        self.assertIs(Table(ODD, 9) == Table(ODD.renamed({"s": "s", "t": "t"}), 9), True)

    def test_all_stays_as_it_is(self):
        table = Table(BLOCK, 2)
        before = [told(table), told_of(BLOCK)]
        for call in (lambda: table.after(None, "a"), lambda: table.after(table.start, "z"), lambda: table.text_to((9,))):
            with self.assertRaises(ValueError):
                call()
        self.assertEqual([told(table), told_of(BLOCK)], before)
        self.assertEqual(told(Table(BLOCK, 2)), before[0])
