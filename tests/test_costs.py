"""Costs."""

import itertools
import unittest

from lastprices.base.machines import Machine
from lastprices.errors import InvalidCosts, InvalidMachine, InvalidNumber, InvalidOperation, InvalidText
from lastprices.signs.costs import Costs
from lastprices.signs.squares import Square
from tests.force import drawn_machine, drawn_machines, least_price, some_machines, texts_up_to, ways_along
from tests.values import BLOCK, COUNT, NAMES_24, NO_MACHINES, NO_STRINGS, NO_TEXTS, check_refused, shown, told_of

SMALL = Costs(((0, -1, 2), (7, 3, -1), (-1, -1, 10 ** 59)))

NO_COSTS = [value for value in NO_STRINGS if value not in [((0,),)]] + [
    "", "0", "0,", (0,), ((),), ((0,), (0,)), ((0, 0),), ((0, 0), (0,)), ((0, 0), (0, 0, 0)), [(0,)], ([0],), [[0]],
    ((-2,),), ((True,),), ((False,),), ((None,),), (("0",),), ((10 ** 60,),), ((-(10 ** 60),),), (((0,),),), ("0",),
    ((0, 0), (0, -2)), ((0, 0), (0, True)), ((0, 0), "00"), ((0, 0), None), {(0,): (0,)}, {0: (0,)},
    ((0,) * 25,) * 25, ((0,) * 24,) * 25, ((0,) * 25,) * 24, ((COUNT,),)]

NO_PLACES = [value for value in NO_STRINGS if not isinstance(value, tuple)] + [
    (), (0,), (0, 0, 0), [0, 0], [0], {0: 0}, (0, 3), (3, 0), (0, -1), (-1, 0), (True, 0), (0, False), (None, 0), (0, "0"),
    "00", ("0", 0), ((0, 0),), ((0,), 0), (0, 10 ** 60), (10 ** 99, 0), (0, [0]), (BLOCK, 0)]

NO_POWERS = [value for value in NO_STRINGS if value not in (1, 9, 10, 10 ** 59) or isinstance(value, bool)] + [
    0, -1, 10 ** 60, "1", "a", ""]


def costs_by_force(machine, text):
    """The rows of the costs of a text."""
    ways = ways_along(machine, text)
    return tuple(tuple(min([price for way, price in ways.items() if (way[0], way[-1]) == (one, other)], default=-1)
        for other in machine.states) for one in machine.states)


def product_by_force(one, other):
    """The rows of the product of two costs, by their rows."""
    places = range(len(one))
    return tuple(tuple(min([one[i][m] + other[m][j] for m in places if one[i][m] >= 0 and other[m][j] >= 0], default=-1)
        for j in places) for i in places)


def power_by_force(rows, number):
    """The rows of a power of costs, by squares of them, from the lowest bit of the number on."""
    made = None
    while number:
        if number % 2:
            made = rows if made is None else product_by_force(made, rows)
        rows = product_by_force(rows, rows)
        number //= 2
    return made


# The greatest powers that a number of sixty digits can have, and others beside which something begins anew.
GREAT = (10 ** 40, 10 ** 60 - 1, 2 ** 199, 2 ** 199 - 1, 2 ** 100 + 1, 3 ** 125, 10 ** 59 + 7)


def told(costs):
    """All that costs tell of themselves."""
    return costs.rows, costs.signs.rows, len(costs), str(costs)


class CostsTest(unittest.TestCase):
    def test_what_they_tell(self):
        self.assertEqual(SMALL.rows, ((0, -1, 2), (7, 3, -1), (-1, -1, 10 ** 59)))
        self.assertEqual(told(SMALL), (SMALL.rows, ("0.1", "11.", "..1"), 3, "costs for 3 states"))
        self.assertEqual(SMALL.signs.__class__, Square)
        self.assertEqual([str(Costs(((5,),))), len(Costs(((5,),)))], ["costs for 1 states", 1])
        self.assertEqual([SMALL[at] for at in itertools.product(range(3), repeat=2)], [0, -1, 2, 7, 3, -1, -1, -1, 10 ** 59])

    def test_up_to_24_states_and_60_digits(self):
        rows = ((10 ** 60 - 1,) * 24,) * 24
        self.assertEqual([len(Costs(rows)), Costs(rows)[23, 23]], [24, 10 ** 60 - 1])

    def test_wrong_rows(self):
        check_refused(self, InvalidCosts, [Costs], NO_COSTS)

    def test_wrong_places(self):
        check_refused(self, InvalidNumber, [lambda value: SMALL[value]], NO_PLACES)

    def test_equality(self):
        for value in [*NO_STRINGS, SMALL.rows, SMALL.signs, Costs(((0,),)), "costs for 3 states",
                Costs(((0, -1, 2), (7, 3, -1), (-1, -1, 10 ** 59 - 1)))]:
            self.assertIs(SMALL == value, False, shown(value))
            self.assertIs(value == SMALL, False, shown(value))
            self.assertIs(SMALL != value, True, shown(value))
        self.assertIs(SMALL == Costs(SMALL.rows), True)
        self.assertIs(SMALL != Costs(SMALL.rows), False)

    def test_they_are_not_iterated_over(self):
        with self.assertRaises(TypeError):
            iter(SMALL)
        with self.assertRaises(TypeError):
            list(SMALL)


class OfTextTest(unittest.TestCase):
    def test_against_all_ways(self):
        for machine in some_machines(40):
            for text in texts_up_to("ab", 4) + ["c", "acb"]:
                costs = Costs.of_text(machine, text)
                self.assertEqual(costs.rows, costs_by_force(machine, text), (machine.lines, text))
                self.assertEqual(costs.between(machine), least_price(machine, text))

    def test_the_empty_text(self):
        self.assertEqual(Costs.of_text(BLOCK, "").rows, ((0, -1, -1), (-1, 0, -1), (-1, -1, 0)))
        self.assertEqual([Costs.of_text(BLOCK, "").between(BLOCK), Costs.of_text(COUNT, "").between(COUNT)], [None, 0])

    def test_letters_that_no_arc_has(self):
        self.assertEqual(Costs.of_text(BLOCK, "abza").rows, ((-1, -1, -1),) * 3)

    def test_long_texts(self):
        self.assertEqual(Costs.of_text(COUNT, "b" * 100000).rows, ((100000,),))
        self.assertEqual(Costs.of_text(BLOCK, "b" + "a" * 99998 + "b").rows,
            ((0, 0, 99998), (-1, -1, 0), (-1, -1, 0)))
        arcs = {(one, letter, other): price for one in NAMES_24 for other in NAMES_24 for letter, price in ("a1", "b2")}
        machine = Machine(NAMES_24, NAMES_24, {place: int(price) for place, price in arcs.items()})
        self.assertEqual(Costs.of_text(machine, "abb" * 33333).rows, ((33333 * 5,) * 24,) * 24)

    def test_wrong_arguments(self):
        check_refused(self, InvalidMachine, [lambda value: Costs.of_text(value, ""),
            lambda value: Costs.of_text(value, None)], NO_MACHINES)
        check_refused(self, InvalidText, [lambda value: Costs.of_text(COUNT, value)], NO_TEXTS)


class ProductTest(unittest.TestCase):
    def test_texts_one_behind_the_other(self):
        for machine in some_machines(20):
            for one, other in itertools.product(texts_up_to("ab", 2), repeat=2):
                self.assertEqual(Costs.of_text(machine, one) * Costs.of_text(machine, other),
                    Costs.of_text(machine, one + other))

    def test_all_of_a_product(self):
        one = Costs(((0, 5), (-1, 2)))
        other = Costs(((7, -1), (1, -1)))
        self.assertEqual([(one * other).rows, (other * one).rows], [((6, -1), (3, -1)), ((7, 12), (1, 6))])
        self.assertEqual((Costs(((-1,),)) * Costs(((3,),))).rows, ((-1,),))

    def test_other_numbers_of_states(self):
        for one, other in ((SMALL, Costs(((0,),))), (Costs(((0,),)), SMALL)):
            with self.assertRaises(InvalidOperation):
                one * other

    def test_what_are_no_costs(self):
        for value in [*NO_STRINGS, "a", SMALL.rows, SMALL.signs]:
            if not isinstance(value, Costs):
                with self.assertRaises(TypeError, msg=shown(value)):
                    SMALL * value
                with self.assertRaises(TypeError, msg=shown(value)):
                    value * SMALL

    def test_powers(self):
        for machine in some_machines(20):
            for text in ("a", "b", "ab"):
                costs = Costs.of_text(machine, text)
                for number in range(1, 9):
                    self.assertEqual(costs.powered(number).rows, Costs.of_text(machine, text * number).rows)
                    self.assertEqual((costs ** number).rows, Costs.of_text(machine, text * number).rows)

    def test_powers_of_sixty_digits(self):
        for number in (10 ** 59, 10 ** 60 - 1, 2 ** 199, 2 ** 199 - 1, 3 ** 125):
            self.assertEqual((Costs(((3,),)) ** number).rows, ((3 * number,),))
            self.assertEqual(Costs.of_text(BLOCK, "a").powered(number).rows, ((0, -1, -1), (-1, number, -1), (-1, -1, 0)))
        ring = {(NAMES_24[at - 1], "a", NAMES_24[at]): at // 3 for at in range(24)}
        costs = Costs.of_text(Machine(NAMES_24, NAMES_24, ring), "a")
        self.assertEqual((costs ** (24 * 10 ** 57))[5, 5], 84 * 10 ** 57)
        self.assertEqual((costs ** (24 * 10 ** 57))[5, 6], -1)

    def test_wrong_powers(self):
        check_refused(self, InvalidNumber, [SMALL.powered, lambda value: SMALL ** value], NO_POWERS)

    def test_longer_entries(self):
        long = Costs(((10 ** 60 - 1, 1), (-1, 0))) ** (10 ** 60 - 1)
        self.assertEqual(long.rows, (((10 ** 60 - 1) ** 2, 1), (-1, 0)))
        self.assertEqual([long[0, 0], len(long), str(long)], [(10 ** 60 - 1) ** 2, 2, "costs for 2 states"])
        self.assertEqual(long.signs.rows, ("11", ".0"))
        self.assertEqual((long * long).rows, ((2 * (10 ** 60 - 1) ** 2, 1), (-1, 0)))
        self.assertEqual((long * Costs(((0, -1), (-1, 5)))).rows, (((10 ** 60 - 1) ** 2, 6), (-1, 5)))
        self.assertEqual((long ** 3)[0, 0], 3 * (10 ** 60 - 1) ** 2)
        self.assertEqual(long.between(Machine(("a",), ("a", "b"), {})), 1)
        self.assertEqual(long, Costs(((10 ** 60 - 1, 1), (-1, 0))).powered(10 ** 60 - 1))
        # They are not passed, though.
        with self.assertRaises(InvalidCosts):
            Costs(long.rows)


class GreatPowersTest(unittest.TestCase):
    def test_small_numbers_one_by_one(self):
        for machine in drawn_machines(8, (1, 2, 3, 4, 5)):
            for text in ("a", "ab"):
                costs = Costs.of_text(machine, text)
                made = costs
                # Far beyond the number from which on powers are not made of products alone.
                for number in range(1, 340):
                    self.assertEqual(costs ** number, made, (machine.lines, number))
                    made = made * costs

    def test_great_numbers_by_squares(self):
        for machine in drawn_machines(15, (1, 2, 3, 4, 5)):
            for text in ("a", "b", "ba", "aab"):
                costs = Costs.of_text(machine, text)
                for number in GREAT:
                    self.assertEqual(costs.powered(number).rows, power_by_force(costs.rows, number), (machine.lines, number))

    def test_numbers_that_are_sums(self):
        for machine in drawn_machines(15, (1, 2, 3, 4, 5)):
            for text in ("a", "b", "abb"):
                costs = Costs.of_text(machine, text)
                for number in GREAT:
                    for part in (1, 2, 59, 10 ** 5, number // 7, number // 2, number - 3):
                        self.assertEqual((costs ** part) * (costs ** (number - part)), costs ** number)

    def test_rings_of_unlike_lengths(self):
        # The cheapest rings are longest ones, go through all states, or are reached late.
        for many in (2, 3, 4, 5):
            names = NAMES_24[:many]
            ring = {(names[at - 1], "a", names[at]): 0 if at else 1 for at in range(many)}
            for at in range(many):
                arcs = {**ring, (names[at], "a", names[at]): 1, (names[at], "a", names[at - 1]): 1}
                costs = Costs.of_text(Machine(names[:1], names[-1:], arcs), "a")
                for number in GREAT + tuple(range(30, 60)):
                    self.assertEqual(costs.powered(number).rows, power_by_force(costs.rows, number), (arcs, number))

    def test_entries_of_many_digits(self):
        costs = Costs(((-1, 10 ** 59, 0), (3, -1, 10 ** 60 - 1), (-1, 5, 10 ** 58)))
        for number in GREAT:
            self.assertEqual((costs ** number).rows, power_by_force(costs.rows, number))
            self.assertEqual(((costs ** number) ** number).rows, power_by_force(costs.rows, number * number))

    def test_24_states(self):
        arcs = {(NAMES_24[at - 1], "a", NAMES_24[at]): at // 3 for at in range(24)}
        for at in (3, 8, 17, 22):
            arcs[NAMES_24[at], "a", NAMES_24[at - 2]] = at - at // 10 * 10
        costs = Costs.of_text(Machine(NAMES_24[:1], NAMES_24[-1:], arcs), "a")
        for number in (1, 30, 5000, 10 ** 40, 10 ** 60 - 1):
            self.assertEqual((costs ** number).rows, power_by_force(costs.rows, number), number)
        self.assertEqual(drawn_machine(0, 5).states, ("s", "t", "u", "v", "w"))


class BetweenTest(unittest.TestCase):
    def test_the_least_entry(self):
        costs = Costs(((9, 8, 7), (-1, 0, 5), (4, 3, -1)))
        names = ("a", "b", "c")
        for firsts, lasts, least in ((("a",), ("a",), 9), (("a",), names, 7), (("a", "c"), ("a", "b"), 3),
                (("b",), ("a",), None), (("b",), ("a", "c"), 5), (names, names, 0), (("c",), ("c",), None)):
            self.assertEqual(costs.between(Machine(firsts, lasts, {(name, "x", name): 0 for name in names})), least)

    def test_wrong_arguments(self):
        check_refused(self, InvalidMachine, [SMALL.between], NO_MACHINES)
        for machine in (COUNT, BLOCK | COUNT):
            with self.assertRaises(InvalidOperation):
                SMALL.between(machine)

    def test_all_stays_as_it_is(self):
        before = [told(SMALL), told_of(BLOCK)]
        for _ in range(2):
            self.assertEqual((SMALL * SMALL).rows, ((0, -1, 2), (7, 6, 9), (-1, -1, 2 * 10 ** 59)))
            self.assertEqual([SMALL.between(BLOCK), Costs.of_text(BLOCK, "bab").between(BLOCK)], [2, 1])
            for call in (lambda: SMALL * COUNT, lambda: SMALL ** 0, lambda: SMALL[3, 3], lambda: SMALL.between(COUNT)):
                with self.assertRaises((TypeError, IndexError, ValueError)):
                    call()
        self.assertEqual([told(SMALL), told_of(BLOCK)], before)
        rows = [[0, 1], [1, 0]]
        costs = Costs(tuple(tuple(row) for row in rows))
        rows[0][0] = 7
        self.assertEqual(costs.rows, ((0, 1), (1, 0)))
