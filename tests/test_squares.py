"""Squares of signs."""

import itertools
import random
import unittest

from lastprices.base.machines import Machine
from lastprices.errors import InvalidMachine, InvalidNumber, InvalidOperation, InvalidSquare, InvalidText
from lastprices.signs.costs import Costs
from lastprices.signs.squares import Square, greatest_sign, least_sign
from tests.force import some_machines, texts_up_to
from tests.test_costs import NO_PLACES
from tests.values import BLOCK, COUNT, NAMES_24, NO_MACHINES, NO_STRINGS, NO_TEXTS, check_refused, shown, told_of

ORDER = "01n."
SMALL = Square(("0n", ".1"))

NO_SQUARES = [value for value in NO_STRINGS if value not in [("0",)]] + [
    "", "0", "0n/.1", (), ("",), ("00",), ("0", "0"), ("00", "0"), ("00", "000"), ["0"], (["0"],), (("0",),), ("2",), ("N",),
    ("0n", ".2"), ("0 ", ".."), ("00", 0), ("00", None), ("00", "\n0"), ("a",), (0,), (True,), {"0": "0"}, ("0" * 25,) * 25,
    ("0" * 24,) * 25, ("0" * 25,) * 24, ("00", ["0", "0"]), ("n" * 4000,), (COUNT,)]

NO_SIGNS = NO_STRINGS + ["", "2", "a", "N", "01", "..", " ", "\n", "0" * 4000]


def product_by_force(one, other):
    """The rows of a product, as it is told."""
    many = range(len(one))
    return tuple("".join(
        min((max(one[i][m], other[m][j], key=ORDER.index) for m in many), key=ORDER.index) for j in many) for i in many)


def repeat_by_force(rows):
    """The rows of a repeat, as it is told."""
    many = range(len(rows))
    return tuple("".join(
        min((max(rows[i][m], rows[m][m].replace("1", "n"), rows[m][j], key=ORDER.index) for m in many), key=ORDER.index)
        for j in many) for i in many)


def some_squares(many):
    """The rows of so many squares, the same ones at all times."""
    told = random.Random(7)
    for _ in range(many):
        size = told.choice((1, 2, 2, 3, 3, 4))
        signs = told.choice((ORDER, "0n.", "01n...", "1.", "n."))
        yield tuple("".join(told.choice(signs) for _ in range(size)) for _ in range(size))


def told(square):
    """All that a square tells of itself."""
    return square.rows, square.is_stable, len(square), str(square)


class SquareTest(unittest.TestCase):
    def test_what_it_tells(self):
        self.assertEqual(told(SMALL), (("0n", ".1"), True, 2, "0n/.1"))
        self.assertEqual(told(Square((".",))), ((".",), True, 1, "."))
        self.assertEqual([SMALL[at] for at in itertools.product(range(2), repeat=2)], ["0", "n", ".", "1"])
        for value in (SMALL.rows, Square.of_text(BLOCK, "ab").rows, (SMALL * SMALL).rows):
            self.assertEqual([value.__class__, *{row.__class__ for row in value}], [tuple, str])

    def test_up_to_24_states(self):
        rows = tuple("".join(ORDER[(at * step) & 3] for at in range(24)) for step in range(24))
        self.assertEqual([Square(rows).rows, len(Square(rows)), str(Square(rows))], [rows, 24, "/".join(rows)])

    def test_wrong_rows(self):
        check_refused(self, InvalidSquare, [Square], NO_SQUARES)

    def test_wrong_places(self):
        check_refused(self, InvalidNumber, [lambda value: Square(("000",) * 3)[value]], NO_PLACES)

    def test_equality(self):
        for value in [*NO_STRINGS, SMALL.rows, str(SMALL), Square(("0n", ".n")), Square(("0", ))]:
            self.assertIs(SMALL == value, False, shown(value))
            self.assertIs(value == SMALL, False, shown(value))
            self.assertIs(SMALL != value, True, shown(value))
        self.assertIs(SMALL == Square(("0n", ".1")), True)
        self.assertIs(SMALL != Square(("0n", ".1")), False)

    def test_they_are_not_iterated_over(self):
        with self.assertRaises(TypeError):
            iter(SMALL)


class OfTextTest(unittest.TestCase):
    def test_letters(self):
        machine = Machine(("s",), ("t",), {("s", "a", "s"): 0, ("s", "a", "t"): 9, ("t", "a", "s"): 1, ("t", "b", "t"): 0})
        self.assertEqual([str(Square.of_text(machine, letter)) for letter in "abc"], ["01/1.", "../.0", "../.."])

    def test_products_of_letters(self):
        for machine in some_machines(40):
            for text in texts_up_to("ab", 4)[1:] + ["c", "acb"]:
                rows = Square.of_text(machine, text[0]).rows
                for letter in text[1:]:
                    rows = product_by_force(rows, Square.of_text(machine, letter).rows)
                self.assertEqual(Square.of_text(machine, text).rows, rows, (machine.lines, text))
                self.assertEqual(Square.of_text(machine, text), Costs.of_text(machine, text).signs)

    def test_long_texts(self):
        self.assertEqual(str(Square.of_text(BLOCK, "b" + "a" * 99998 + "b")), "001/..0/..0")
        ring = {(NAMES_24[at - 1], "ab"[at & 1], NAMES_24[at]): at & 1 for at in range(24)}
        machine = Machine(NAMES_24, NAMES_24, ring)
        self.assertEqual(Square.of_text(machine, "ba" * 50000), Costs.of_text(machine, "ba" * 50000).signs)

    def test_wrong_arguments(self):
        check_refused(self, InvalidMachine, [lambda value: Square.of_text(value, "a"),
            lambda value: Square.of_text(value, "")], NO_MACHINES)
        check_refused(self, InvalidText, [lambda value: Square.of_text(COUNT, value)], [*NO_TEXTS, ""])


class ProductTest(unittest.TestCase):
    def test_as_it_is_told(self):
        by_size = {}
        for rows in some_squares(400):
            other = by_size.get(len(rows), rows)
            self.assertEqual((Square(rows) * Square(other)).rows, product_by_force(rows, other))
            self.assertIs(Square(rows).is_stable, product_by_force(rows, rows) == rows)
            by_size[len(rows)] = rows

    def test_24_states(self):
        rows = [tuple("".join(ORDER[(at * step * step + more + at) % 11 & 3] for at in range(24)) for step in range(24))
            for more in range(2)]
        for one, other in itertools.product(rows, repeat=2):
            self.assertEqual((Square(one) * Square(other)).rows, product_by_force(one, other))

    def test_other_numbers_of_states(self):
        for one, other in ((SMALL, Square(("0",))), (Square(("0",)), SMALL)):
            with self.assertRaises(InvalidOperation):
                one * other

    def test_what_is_no_square(self):
        for value in [*NO_STRINGS, "a", SMALL.rows, str(SMALL), Costs(((0, 0), (0, 0)))]:
            if not isinstance(value, Square):
                with self.assertRaises(TypeError, msg=shown(value)):
                    SMALL * value
                with self.assertRaises(TypeError, msg=shown(value)):
                    value * SMALL


class RepeatTest(unittest.TestCase):
    def test_as_it_is_told(self):
        stable = 0
        for rows in some_squares(1500):
            square = Square(rows)
            if square.is_stable:
                stable += 1
                self.assertEqual(square.repeated().rows, repeat_by_force(rows), rows)
            else:
                with self.assertRaises(InvalidOperation):
                    square.repeated()
        self.assertGreater(stable, 100)

    def test_single_signs(self):
        self.assertEqual([Square((sign,)).repeated().rows[0] for sign in ORDER], ["0", "n", "n", "."])

    def test_24_states(self):
        # Free ways to a state with a loop and away from it, around which all else is little.
        rows = tuple("".join("0" if other in (step, 23) or step == 23 else "1" for other in range(24)) for step in range(24))
        square = Square(product_by_force(rows, rows))
        self.assertIs(square.is_stable, True)
        self.assertEqual(square.repeated().rows, repeat_by_force(square.rows))


class BetweenTest(unittest.TestCase):
    def test_the_least_sign(self):
        square = Square((".n1", "0.n", "..."))
        names = ("a", "b", "c")
        for firsts, lasts, least in ((("a",), ("a",), "."), (("a",), names, "1"), (("a", "c"), ("a", "b"), "n"),
                (("b",), ("a",), "0"), (("b",), ("b", "c"), "n"), (names, names, "0"), (("c",), names, ".")):
            self.assertEqual(square.between(Machine(firsts, lasts, {(name, "x", name): 0 for name in names})), least)

    def test_wrong_arguments(self):
        check_refused(self, InvalidMachine, [SMALL.between], NO_MACHINES)
        for machine in (COUNT, BLOCK):
            with self.assertRaises(InvalidOperation):
                SMALL.between(machine)

    def test_all_stays_as_it_is(self):
        square = Square(("0n1", ".1n", "..n"))
        before = [told(square), told_of(BLOCK)]
        for _ in range(2):
            self.assertEqual([square.between(BLOCK), (square * square).rows], ["1", ("0n1", ".1n", "..n")])
            self.assertEqual([str(Square.of_text(BLOCK, "bab")), square.repeated().rows],
                ["001/..0/..0", ("0n1", ".nn", "..n")])
            for call in (lambda: square * SMALL, lambda: square[3, 3], lambda: square.between(COUNT),
                    lambda: Square(("10", "00")).repeated()):
                with self.assertRaises((IndexError, ValueError)):
                    call()
        self.assertEqual([told(square), told_of(BLOCK)], before)


class SignsTest(unittest.TestCase):
    def test_all_up_to_three(self):
        for many in (1, 2, 3):
            for signs in itertools.product(ORDER, repeat=many):
                self.assertEqual(least_sign(*signs), min(signs, key=ORDER.index))
                self.assertEqual(greatest_sign(*signs), max(signs, key=ORDER.index))
        self.assertEqual([least_sign(*"." * 1000, "n"), greatest_sign(*"0" * 1000, "1")], ["n", "1"])

    def test_wrong_signs(self):
        for call in (least_sign, greatest_sign):
            with self.assertRaises(InvalidOperation):
                call()
            check_refused(self, InvalidOperation, [call, lambda value: call("0", value), lambda value: call(value, "."),
                lambda value: call(value, value)], NO_SIGNS)
