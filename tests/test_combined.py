"""Machines that are made of machines."""

import itertools
import unittest

from lastprices.base.machines import Machine
from lastprices.errors import InvalidMachine, InvalidOperation, InvalidText, TooMany
from lastprices.read.combined import both, choice, free, joined, pieces, stepped, trimmed, turned
from lastprices.read.prices import price_of
from tests.force import least_price, runs_along, some_machines, texts_up_to
from tests.values import BLOCK, COUNT, NAMES_24, NO_MACHINES, NO_TEXTS, check_refused, shown, told_of

ODD = Machine.from_lines("first s", "last t", "arc s a 3 t", "arc t a 0 s")
TEXTS = texts_up_to("ab", 4)


def ring(many, price=0):
    """A machine with so many states in a ring."""
    names = NAMES_24[:many]
    return Machine(names[:1], names[:1], {(names[at - 1], "a", names[at]): price for at in range(many)})


def least(*prices):
    """The least one of some prices, None if all are None."""
    return min([price for price in prices if price is not None], default=None)


def total(*prices):
    """The sum of some prices, None if one is None."""
    return None if None in prices else sum(prices)


def pairs(many):
    """Pairs of small machines."""
    machines = some_machines(many, 4)
    return [(one, other) for one, other in zip(machines, machines[1:])] + [(BLOCK, BLOCK), (COUNT, ODD), (ODD, ODD)]


def pieces_by_force(machine, text):
    """The least number of pieces that put a text together, None if there is none."""
    if text == "":
        return 0
    told = [pieces_by_force(machine, text[at:]) for at in range(1, len(text) + 1)
        if least_price(machine, text[:at]) is not None]
    return total(1, least(*told))


class ChoiceTest(unittest.TestCase):
    def test_against_both(self):
        for one, other in pairs(30):
            made = choice(one, other)
            for text in TEXTS:
                self.assertEqual(price_of(made, text), least(least_price(one, text), least_price(other, text)))

    def test_all_of_it(self):
        self.assertEqual(choice(BLOCK, ODD).lines, ("first qa qd", "last qc qe", "arc qa a 0 qa", "arc qa b 0 qa",
            "arc qa b 0 qb", "arc qb a 1 qb", "arc qb b 0 qc", "arc qc a 0 qc", "arc qc b 0 qc", "arc qd a 3 qe",
            "arc qe a 0 qd"))

    def test_the_order_of_states_is_kept(self):
        machine = Machine(("b",), ("z",), {("z", "a", "aa"): 5})
        self.assertEqual(choice(machine, machine).lines, ("first qb qe", "last qc qf", "arc qc a 5 qa", "arc qf a 5 qd"))

    def test_24_and_25_states(self):
        self.assertEqual(choice(ring(12), ring(12)).states, NAMES_24)
        self.assertEqual(len(choice(ring(23), ring(1))), 24)
        for one, other in ((ring(12), ring(13)), (ring(24), ring(1)), (ring(1), ring(24)), (ring(24), ring(24))):
            with self.assertRaises(TooMany) as caught:
                choice(one, other)
            self.assertEqual(caught.exception.limit, 24)


class BothTest(unittest.TestCase):
    def test_against_both(self):
        for one, other in pairs(30):
            made = both(one, other)
            for text in TEXTS:
                self.assertEqual(price_of(made, text), total(least_price(one, text), least_price(other, text)))

    def test_all_of_it(self):
        one = Machine(("s",), ("s", "t"), {("s", "a", "t"): 3, ("t", "b", "t"): 1})
        other = Machine(("x", "y"), ("y",), {("x", "a", "y"): 4, ("y", "a", "x"): 6, ("y", "c", "y"): 0})
        self.assertEqual(both(one, other).lines, ("first qa qb", "last qb qd", "arc qa a 7 qd", "arc qb a 9 qc"))

    def test_states_that_are_gone(self):
        one = Machine(("s",), ("t",), {("s", "a", "t"): 1})
        other = Machine(("x",), ("z",), {("x", "a", "y"): 1, ("y", "a", "z"): 1})
        # The pairs are (s, x), (s, y), .. , (t, z).
        made = both(one, other)
        self.assertEqual(made.lines, ("first qa", "last qf", "arc qa a 2 qe", "arc qb a 2 qf"))
        self.assertEqual(made.states, ("qa", "qb", "qe", "qf"))

    def test_sums_of_9_and_10(self):
        for price in range(10):
            self.assertEqual(both(ring(2, price), ring(3, 9 - price)).arcs["qa", "a", "qe"], 9)
            for more in range(10 - price, 10):
                with self.assertRaises(InvalidOperation):
                    both(ring(2, price), ring(3, more))
        # Arcs with different letters are not added up.
        one = Machine(("s",), ("s",), {("s", "a", "s"): 9, ("s", "b", "s"): 0})
        other = Machine(("s",), ("s",), {("s", "a", "s"): 0, ("s", "b", "s"): 9, ("s", "c", "s"): 9})
        self.assertEqual(both(one, other).arcs, {("qa", "a", "qa"): 9, ("qa", "b", "qa"): 9})

    def test_24_and_25_states(self):
        self.assertEqual(len(both(ring(4), ring(6))), 24)
        self.assertEqual(len(both(ring(24), ring(1))), 24)
        # Pairs that no text leads to count, too.
        one = Machine(("a",), ("b", "c", "d", "e"), {})
        for one, other in ((ring(5), ring(5)), (ring(24), ring(2)), (ring(24), ring(24)), (one, one)):
            with self.assertRaises(TooMany) as caught:
                both(one, other)
            self.assertEqual(caught.exception.limit, 24)

    def test_too_great_sums_come_ahead_of_too_many_states(self):
        with self.assertRaises(InvalidOperation):
            both(ring(24, 5), ring(24, 5))
        with self.assertRaises(TooMany):
            both(ring(24, 5), ring(24, 4))

    def test_machines_without_a_common_letter(self):
        other = Machine(("s",), ("s",), {("s", "z", "s"): 9})
        self.assertEqual(both(COUNT, other).lines, ("first qa", "last qa"))


class JoinedTest(unittest.TestCase):
    def test_against_all_parts(self):
        for one, other in pairs(30):
            made = joined(one, other)
            for text in TEXTS:
                parts = [total(least_price(one, text[:at]), least_price(other, text[at:]))
                    for at in range(len(text) + 1)]
                self.assertEqual(price_of(made, text), least(*parts), (one.lines, other.lines, text))

    def test_all_of_it(self):
        one = Machine(("s",), ("s", "t"), {("s", "a", "t"): 3})
        other = Machine(("x", "y"), ("z",), {("x", "a", "z"): 4, ("y", "a", "z"): 2, ("y", "b", "y"): 1,
            ("z", "c", "x"): 5})
        self.assertEqual(joined(one, other).lines, ("first qa", "last qe", "arc qa a 3 qb", "arc qa a 2 qe",
            "arc qa b 1 qd", "arc qb a 2 qe", "arc qb b 1 qd", "arc qc a 4 qe", "arc qd a 2 qe", "arc qd b 1 qd",
            "arc qe c 5 qc"))

    def test_lasts_if_the_second_one_takes_the_empty_text(self):
        self.assertEqual([joined(ODD, COUNT).lasts, joined(ODD, BLOCK).lasts], [("qb", "qc"), ("qe",)])
        one = Machine(("x",), ("y", "z"), {})
        other = Machine(("x", "y"), ("y", "z"), {})
        self.assertEqual(joined(one, other).lines, ("first qa", "last qb qc qe qf"))

    def test_states_that_are_gone(self):
        other = Machine(("s",), ("t",), {("u", "a", "t"): 1})
        # The first state of the second machine stands in no arc.
        self.assertEqual(joined(COUNT, other).states, ("qa", "qc", "qd"))

    def test_24_and_25_states(self):
        self.assertEqual(len(joined(ring(12), ring(12))), 24)
        for one, other in ((ring(12), ring(13)), (ring(24), ring(1)), (ring(1), ring(24))):
            with self.assertRaises(TooMany) as caught:
                joined(one, other)
            self.assertEqual(caught.exception.limit, 24)


class OthersTest(unittest.TestCase):
    def test_turned(self):
        for machine in some_machines(30):
            made = turned(machine)
            self.assertEqual((made.firsts, made.lasts, made.states), (machine.lasts, machine.firsts, machine.states))
            self.assertEqual(turned(made), machine)
            for text in TEXTS:
                self.assertEqual(price_of(made, text[::-1]), least_price(machine, text))

    def test_free_and_stepped(self):
        for machine in some_machines(10):
            for made, price in ((free(machine), 0), (stepped(machine), 1)):
                self.assertEqual((made.firsts, made.lasts, made.states), (machine.firsts, machine.lasts, machine.states))
                self.assertEqual(made.arcs, {place: price for place in machine.arcs})
                for text in TEXTS:
                    told = None if least_price(machine, text) is None else price * len(text)
                    self.assertEqual(price_of(made, text), told)

    def test_pieces(self):
        for machine in [*some_machines(40), ODD]:
            made = pieces(machine)
            for text in TEXTS:
                self.assertEqual(price_of(made, text), pieces_by_force(machine, text), (machine.lines, text))

    def test_all_of_pieces(self):
        self.assertEqual(pieces(ODD).lines, ("first qa", "last qa", "arc qa a 1 qa", "arc qa a 0 qc", "arc qb a 1 qa",
            "arc qb a 0 qc", "arc qc a 0 qb"))
        machine = Machine(("s", "t"), ("s",), {("s", "b", "u"): 9, ("t", "b", "u"): 8, ("u", "c", "s"): 7})
        self.assertEqual(pieces(machine).lines, ("first qa", "last qa", "arc qa b 0 qd", "arc qb b 0 qd",
            "arc qc b 0 qd", "arc qd c 1 qa", "arc qd c 0 qb"))

    def test_states_of_pieces_that_are_gone(self):
        machine = Machine(("s",), ("t", "u"), {("s", "a", "u"): 9})
        self.assertEqual(pieces(machine).states, ("qa", "qb", "qd"))
        self.assertEqual(pieces(Machine(("s",), ("s",), {})).lines, ("first qa", "last qa"))

    def test_pieces_of_23_and_24_states(self):
        self.assertEqual(pieces(ring(23)).states, NAMES_24)
        with self.assertRaises(TooMany) as caught:
            pieces(ring(24))
        self.assertEqual(caught.exception.limit, 24)

    def test_trimmed(self):
        for machine in some_machines(60):
            used = {}
            for text in texts_up_to("ab", 6):
                for run in runs_along(machine, text):
                    for at, letter in enumerate(text):
                        used[run[at], letter, run[at + 1]] = True
            taken = [text for text in TEXTS if runs_along(machine, text)]
            if not taken:
                with self.assertRaises(InvalidOperation):
                    trimmed(machine)
                continue
            made = trimmed(machine)
            self.assertEqual(made.arcs, {place: price for place, price in machine.arcs.items() if place in used})
            self.assertEqual([price_of(made, text) for text in TEXTS], [least_price(machine, text) for text in TEXTS])
            self.assertEqual(trimmed(made), made)

    def test_all_of_trimmed(self):
        machine = Machine(("a", "b", "c"), ("c", "d", "e"), {("a", "a", "d"): 1, ("b", "a", "f"): 2, ("f", "a", "f"): 3,
            ("g", "b", "d"): 4, ("d", "c", "d"): 5, ("f", "b", "g"): 6, ("a", "b", "h"): 7})
        self.assertEqual(trimmed(machine), machine.without_arc("a", "b", "h").with_ends(lasts=("c", "d")))
        machine = Machine(("x", "y"), ("y", "z"), {("x", "a", "x"): 1})
        self.assertEqual(trimmed(machine), Machine(("y",), ("y",), {}))
        self.assertEqual(trimmed(BLOCK), BLOCK)

    def test_machines_that_take_no_text(self):
        nothing = Machine(("a",), ("b",), {("a", "a", "a"): 1, ("b", "b", "b"): 1})
        with self.assertRaises(InvalidOperation):
            trimmed(nothing)
        for made in (turned(nothing), free(nothing), choice(nothing, nothing), both(nothing, COUNT),
                joined(COUNT, nothing), joined(nothing, COUNT)):
            self.assertEqual([text for text in TEXTS if text in made], [])
        self.assertEqual([text for text in TEXTS if text in pieces(nothing)], [""])

    def test_wrong_machines(self):
        check_refused(self, InvalidMachine, [turned, free, stepped, pieces, trimmed], NO_MACHINES)
        for call in (choice, both, joined):
            check_refused(self, InvalidMachine, [lambda value: call(value, COUNT), lambda value: call(COUNT, value),
                lambda value: call(value, value)], NO_MACHINES)
        for call in (choice, both, joined):
            with self.assertRaises(InvalidMachine):
                call(ring(24, 9), None)

    def test_machines_stay_as_they_are(self):
        before = [told_of(BLOCK), told_of(ODD)]
        for call in (choice, both, joined):
            self.assertEqual(call(BLOCK, ODD), call(BLOCK, ODD))
        for call in (turned, free, stepped, pieces, trimmed):
            self.assertEqual(call(BLOCK), call(BLOCK))
        with self.assertRaises(TooMany):
            choice(BLOCK, ring(24))
        with self.assertRaises(InvalidOperation):
            both(ODD.with_arc("s", "b", "s", 9), COUNT)
        self.assertEqual([told_of(BLOCK), told_of(ODD)], before)


class OperatorsTest(unittest.TestCase):
    def test_they_are_the_functions(self):
        for one, other in pairs(10):
            self.assertEqual(one | other, choice(one, other))
            self.assertEqual(one + other, both(one, other))
            self.assertEqual(one * other, joined(one, other))
            self.assertEqual(~one, turned(one))
            for text in TEXTS:
                self.assertEqual(one(text), least_price(one, text))
                self.assertIs(text in one, least_price(one, text) is not None)

    def test_their_errors(self):
        for one, other in itertools.product((ring(24, 5), ring(5, 5)), repeat=2):
            with self.assertRaises(InvalidOperation):
                one + other
        for call in (lambda: ring(24) | ring(1), lambda: ring(5) + ring(5), lambda: ring(24) * ring(1)):
            with self.assertRaises(TooMany) as caught:
                call()
            self.assertEqual(caught.exception.limit, 24)

    def test_operands_that_are_no_machines(self):
        for value in [*NO_MACHINES, BLOCK.lines]:
            for call in (lambda: BLOCK | value, lambda: value | BLOCK, lambda: BLOCK + value, lambda: value + BLOCK,
                    lambda: BLOCK * value, lambda: value * BLOCK):
                with self.assertRaises(TypeError, msg=shown(value)):
                    call()

    def test_calls_with_what_is_no_text(self):
        check_refused(self, InvalidText, [COUNT, BLOCK], NO_TEXTS)

    def test_nothing_but_taken_texts_is_in_a_machine(self):
        for value in NO_TEXTS + [*COUNT.lines, "c", "abc"]:
            self.assertIs(value in COUNT, False, shown(value))
            self.assertIs(value in Machine(("s",), ("s",), {("s", "a", "s"): 0}), False, shown(value))
        for value in ("", "a", "bab", "a" * 100000):
            self.assertIs(value in COUNT, True, shown(value))
            self.assertIs(value not in COUNT, False, shown(value))
