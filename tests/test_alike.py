"""Machines compared."""

import unittest
from unittest import mock

from lastprices.base.machines import Machine
from lastprices.decide.alike import (are_alike, are_alike_up_to, are_ordered, dearer_text, parting_text, same_with, takes_alike,
    takes_less)
from lastprices.decide.papers import is_limited, last_price
from lastprices.errors import InvalidMachine, InvalidNumber, InvalidOperation, InvalidText, TooMany
from lastprices.read.combined import free, stepped
from lastprices.rows import spread
from tests.force import least_price, some_machine, some_machines, texts_up_to
from tests.test_counts import shifting
from tests.test_papers import chain, counting_chain
from tests.test_tables import many_rows
from tests.test_webs import JUST_3000
from tests.values import (BLOCK, COUNT, DEAL, MARK, NO_MACHINES, NO_NUMBERS, NO_TEXTS, ODD, check_refused, told_of)

NOTHING = Machine(("a",), ("b",), {("a", "a", "a"): 1, ("b", "b", "b"): 1})
# Letters that other machines do not have.
OTHERS = Machine(("s",), ("s", "t"), {("s", "b", "s"): 1, ("s", "c", "t"): 0, ("t", "d", "s"): 2})


def capped(price, up_to):
    """A capped price."""
    return None if price is None else min(price, up_to + 1)


def is_dearer(price, cost):
    """Whether the first one of two prices is none or a greater one, and the second one is there."""
    return cost is not None and (price is None or price > cost)


def pairs(many):
    """Pairs of small machines, equal ones and such of which one is made of the other among them."""
    machines = [BLOCK, COUNT, DEAL, MARK, ODD, NOTHING, OTHERS, *some_machines(many)]
    made = list(zip(machines, machines[1:]))
    made += [(machine, machine) for machine in machines]
    made += [(machine, machine | machine) for machine in machines if len(machine) < 4]
    made += [(free(machine), machine) for machine in machines] + [(machine, free(machine)) for machine in machines[::3]]
    return made + [(COUNT, OTHERS), (OTHERS, COUNT), (OTHERS, MARK)]


class CappedTest(unittest.TestCase):
    def test_against_all_texts(self):
        for one, other in pairs(30):
            letters = sorted({*one.letters, *other.letters})
            texts = texts_up_to(letters, 5 if len(letters) < 3 else 3)
            prices = [(text, least_price(one, text), least_price(other, text)) for text in texts]
            for up_to in (0, 1, 4):
                parting = [text for text, price, cost in prices if capped(price, up_to) != capped(cost, up_to)]
                dearer = [text for text, price, cost in prices if is_dearer(capped(price, up_to), capped(cost, up_to))]
                for call, found in ((parting_text, parting), (dearer_text, dearer)):
                    told = call(one, other, up_to=up_to)
                    if found:
                        self.assertEqual(told, found[0], (one.lines, other.lines, up_to))
                    elif told is not None:
                        self.assertGreater(len(told), len(texts[-1]))
                        price, cost = (capped(machine(told), up_to) for machine in (one, other))
                        self.assertIs(price != cost if call is parting_text else is_dearer(price, cost), True)
                self.assertIs(are_alike_up_to(one, other, up_to=up_to), parting_text(one, other, up_to=up_to) is None)
            less = [text for text, price, cost in prices if price is None and cost is not None]
            if less:
                self.assertEqual(takes_less(one, other), less[0], (one.lines, other.lines))
            self.assertIs(takes_alike(one, other), takes_less(one, other) is None and takes_less(other, one) is None)
            for text, price, cost in prices:
                self.assertIs(same_with(one, other, text), price == cost)

    def test_up_to_the_greatest_numbers(self):
        machine = Machine(("c",), ("c",), {("c", "a", "c"): 0, ("c", "b", "c"): 1, ("c", "c", "e"): 0, ("e", "b", "e"): 9})
        other = Machine(("c",), ("c",), {("c", "a", "c"): 0, ("c", "b", "c"): 1})
        for up_to in (0, 199, 200):
            self.assertEqual([parting_text(machine, other, up_to=up_to), are_alike_up_to(machine, other, up_to=up_to)], [None, True])
        ring = {(one, "b", two): 0 for one, two in (("r", "s"), ("s", "t"), ("t", "r"))}
        thirds = Machine(("r",), ("r", "s", "t"), {**ring, ("t", "b", "r"): 3})
        self.assertEqual([parting_text(thirds, COUNT, up_to=200), parting_text(free(COUNT), COUNT, up_to=200)], ["a", "b"])
        # They differ only where all but one letter were read.
        self.assertEqual(parting_text(chain(1, 1, 1), chain(1, 1, 2), up_to=2), None)
        self.assertEqual(parting_text(chain(1, 1, 1), chain(1, 1, 2), up_to=3), "aaa")
        self.assertEqual([dearer_text(chain(1, 1, 2), chain(1, 1, 1), up_to=3), dearer_text(chain(1, 2), chain(1, 3), up_to=9)],
            ["aaa", None])

    def test_letters_of_one_machine_only(self):
        self.assertEqual([parting_text(COUNT, OTHERS, up_to=0), dearer_text(COUNT, OTHERS, up_to=0), takes_less(COUNT, OTHERS),
            takes_less(OTHERS, COUNT)], ["a", "c", "c", "a"])
        bare = Machine(("s",), ("s",), {})
        self.assertEqual([takes_less(bare, OTHERS), takes_less(OTHERS, bare), parting_text(bare, bare, up_to=0)], ["b", None, None])
        self.assertIs(takes_alike(bare, NOTHING), False)
        self.assertIs(takes_alike(NOTHING, Machine(("s",), ("t",), {("s", "z", "s"): 0})), True)

    def test_too_many_pairs(self):
        many = many_rows(2, 5)
        self.assertEqual([parting_text(many, many, up_to=23), are_alike_up_to(many, many, up_to=23)], [None, True])
        other = Machine(("s",), ("s",), {("s", "a", "s"): 0, ("s", "b", "t"): 0, ("t", "a", "t"): 0, ("t", "b", "s"): 0})
        calls = [lambda: parting_text(many, many, up_to=24), lambda: are_alike_up_to(many, many, up_to=24),
            lambda: dearer_text(many, many, up_to=200), lambda: parting_text(many, other, up_to=23),
            # Where a text is found early, too.
            lambda: parting_text(many, free(COUNT), up_to=100), lambda: takes_less(shifting(16), COUNT),
            lambda: takes_alike(COUNT, shifting(16))]
        for call in calls:
            with self.assertRaises(TooMany) as caught:
                call()
            self.assertEqual(caught.exception.limit, 20000)
        self.assertEqual([takes_less(shifting(15), shifting(15)), takes_less(shifting(15), COUNT)], [None, ""])

    def test_the_limit_itself(self):
        for one, other in ((COUNT, MARK), (DEAL, BLOCK), (OTHERS, COUNT), (some_machine(5), some_machine(8))):
            for up_to in (0, 2):
                letters = sorted({*one.letters, *other.letters})
                seen = {tuple(tuple(0 if state in machine.firsts else -1 for state in machine.states) for machine in (one, other))}
                waiting = list(seen)
                for row, beside in waiting:
                    for letter in letters:
                        later = tuple(tuple(min([min(price + cost, up_to + 1) for state, price in zip(machine.states, before)
                            if price >= 0 for last, cost in machine.steps(state, letter) if last == at], default=-1)
                            for at in machine.states) for machine, before in ((one, row), (other, beside)))
                        if later not in seen:
                            seen.add(later)
                            waiting.append(later)
                with mock.patch.object(spread, "MAX_TABLE", len(seen)):
                    parting_text(one, other, up_to=up_to)
                with mock.patch.object(spread, "MAX_TABLE", len(seen) - 1):
                    for call in (parting_text, are_alike_up_to, dearer_text):
                        with self.assertRaises(TooMany):
                            call(one, other, up_to=up_to)


class LimitedTest(unittest.TestCase):
    def test_against_all_texts(self):
        limited = [machine for machine in [MARK, NOTHING, chain(3, 4), *some_machines(120)] if is_limited(machine)]
        self.assertGreater(len(limited), 40)
        for one, other in [*zip(limited, limited[1:]), *[(machine, machine | machine) for machine in limited if len(machine) < 3],
                *[(free(machine), machine) for machine in limited]]:
            texts = texts_up_to(sorted({*one.letters, *other.letters}), 5)
            prices = [(least_price(one, text), least_price(other, text)) for text in texts]
            alike, ordered = are_alike(one, other), are_ordered(one, other)
            if any(price != cost for price, cost in prices):
                self.assertIs(alike, False)
            if any(is_dearer(price, cost) for price, cost in prices):
                self.assertIs(ordered, False)
            cap = max(last_price(one), last_price(other))
            self.assertIs(alike, parting_text(one, other, up_to=cap) is None)
            self.assertIs(ordered, dearer_text(one, other, up_to=cap) is None)
        for machine in limited:
            self.assertEqual([are_alike(machine, machine), are_ordered(machine, machine), are_ordered(free(machine), machine)],
                [True, True, True])
            self.assertIs(are_ordered(machine, free(machine)), last_price(machine) == 0)

    def test_machines_that_are_not_limited(self):
        for one, other in ((COUNT, MARK), (MARK, COUNT), (BLOCK, COUNT), (BLOCK, BLOCK)):
            for call in (are_alike, are_ordered):
                with self.assertRaises(InvalidOperation):
                    call(one, other)

    def test_errors_in_their_order(self):
        wide = JUST_3000.with_arc("x", "z", "y", 0)
        dear = chain(*[9] * 23)
        full = counting_chain(*[9] * 16)
        for one, other, limit in ((wide, COUNT, 3000), (COUNT, wide, 3000), (dear, wide, 200), (wide, dear, 3000), (full, dear, 20000),
                (COUNT, dear, 200), (dear, COUNT, 200), (MARK, full, 20000)):
            for call in (are_alike, are_ordered):
                with self.assertRaises(TooMany) as caught:
                    call(one, other)
                self.assertEqual(caught.exception.limit, limit)
        for one, other in ((wide, None), (dear, "first c"), (full, COUNT.lines), (None, wide)):
            for call in (are_alike, are_ordered):
                with self.assertRaises(InvalidMachine):
                    call(one, other)
        # Each last price can be told, but there are too many pairs of rows for the greater one.
        fits = counting_chain(*[9] * 15, 4)
        self.assertIs(are_alike(fits, fits), True)
        for one, other in ((fits, shifting(5).renamed({f"q{letter}": f"r{letter}" for letter in "abcde"})), (fits, chain(*[9] * 22, 2))):
            for call in (are_alike, are_ordered):
                with self.assertRaises(TooMany) as caught:
                    call(one, other)
                self.assertEqual(caught.exception.limit, 20000)

    def test_same_prices_of_texts(self):
        self.assertEqual([same_with(COUNT, DEAL, text) for text in ("", "a", "b", "bab", "c")], [True, True, True, False, True])
        self.assertIs(same_with(COUNT, stepped(COUNT), "b" * 100000), True)
        self.assertIs(same_with(COUNT, stepped(COUNT), "a" + "b" * 99999), False)


class WrongValuesTest(unittest.TestCase):
    def test_wrong_machines(self):
        for call in (lambda one, other: parting_text(one, other, up_to=None), lambda one, other: dearer_text(one, other, up_to=1),
                lambda one, other: are_alike_up_to(one, other, up_to=-1), takes_less, takes_alike, are_alike, are_ordered,
                lambda one, other: same_with(one, other, None), lambda one, other: same_with(one, other, "")):
            check_refused(self, InvalidMachine, [lambda value: call(value, COUNT), lambda value: call(COUNT, value),
                lambda value: call(value, value)], NO_MACHINES)

    def test_wrong_numbers(self):
        many = many_rows(2, 6)
        for call in (parting_text, dearer_text, are_alike_up_to):
            check_refused(self, InvalidNumber, [lambda value: call(COUNT, MARK, up_to=value), lambda value: call(many, many, up_to=value)],
                NO_NUMBERS)
            with self.assertRaises(TypeError):
                call(COUNT, MARK, 1)

    def test_wrong_texts(self):
        check_refused(self, InvalidText, [lambda value: same_with(COUNT, MARK, value)], NO_TEXTS)

    def test_machines_stay_as_they_are(self):
        before = [told_of(machine) for machine in (MARK, OTHERS, DEAL)]
        for call in (takes_less, takes_alike, lambda one, other: parting_text(one, other, up_to=2)):
            self.assertEqual(call(MARK, OTHERS), call(MARK, OTHERS))
        self.assertEqual(are_alike(MARK, MARK | MARK), are_alike(MARK, MARK | MARK))
        self.assertEqual([told_of(machine) for machine in (MARK, OTHERS, DEAL)], before)
