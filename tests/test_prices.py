"""Prices and runs of texts."""

import random
import unittest
from unittest import mock

from lastprices.base import tracks
from lastprices.base.machines import Machine
from lastprices.errors import InvalidMachine, InvalidOperation, InvalidText, NotTaken
from lastprices.read.combined import joined
from lastprices.read.prices import cheapest, is_cheapest, is_taken, price_of, run_price, runs_of
from lastprices.rows.tables import row_of
from lastprices.signs.costs import Costs
from tests.force import drawn_machine, drawn_machines, least_price, runs_along, some_machines, texts_up_to, ways_along
from tests.values import (BLOCK, COUNT, NAMES_24, NO_MACHINES, NO_STRINGS, NO_TEXTS, check_refused, shown, told_of)

LOOP = Machine(("s",), ("s",), {("s", "a", "s"): 9})
APART = Machine(("s", "t"), ("t", "u"), {("s", "a", "s"): 1, ("t", "a", "t"): 2, ("u", "a", "u"): 3})

# Values that are no ways along "ab" in BLOCK.
NO_WAYS = [*NO_STRINGS, "", "ppp", "p", (), ("p",), ("p", "p"), ("p", "p", "p", "p"), ["p", "p", "p"], ("p", "q", "r"),
    ("p", "p", "r"), ("p", "p", "P"), ("p", "p", None), ("p", "p", ["q"]), ("p", "p", ("q",)), (["p"], "p", "q"),
    ({}, "p", "q"), (0, 1, 2), (True, "p", "p"), ("p", BLOCK, "q"), ("x", "p", "p"), ("p", "p", "x"), ("p", "p", ""),
    ("p", "p", "q", "r"), (("p", "p", "q"),), {"p": "p", "q": "q", "r": "r"}]


class PriceTest(unittest.TestCase):
    def test_against_all_runs(self):
        for machine in some_machines(60):
            for text in texts_up_to("ab", 4) + ["c", "ac", "bbacb"]:
                runs = runs_along(machine, text)
                self.assertEqual(price_of(machine, text), least_price(machine, text), (machine.lines, text))
                self.assertIs(is_taken(machine, text), len(runs) > 0, (machine.lines, text))
                self.assertEqual(runs_of(machine, text), len(runs), (machine.lines, text))

    def test_the_empty_text(self):
        self.assertEqual([price_of(COUNT, ""), is_taken(COUNT, ""), runs_of(COUNT, "")], [0, True, 1])
        self.assertEqual([price_of(BLOCK, ""), is_taken(BLOCK, ""), runs_of(BLOCK, "")], [None, False, 0])
        self.assertEqual(runs_of(Machine(("a", "b", "c"), ("b", "c", "d"), {}), ""), 2)

    def test_letters_that_no_arc_has(self):
        for text in ("c", "ac", "ca", "abz", "z" * 1000):
            self.assertEqual([price_of(COUNT, text), is_taken(COUNT, text), runs_of(COUNT, text)], [None, False, 0])

    def test_machines_that_take_no_text(self):
        nothing = Machine(("a",), ("b",), {("a", "a", "a"): 1, ("b", "b", "b"): 1})
        for text in ("", "a", "b", "ab"):
            self.assertEqual([price_of(nothing, text), is_taken(nothing, text), runs_of(nothing, text)],
                [None, False, 0])

    def test_the_cheapest_of_several_ends(self):
        self.assertEqual([price_of(APART, "aaa"), runs_of(APART, "aaa"), price_of(APART, "")], [6, 1, 0])

    def test_wrong_machines(self):
        calls = [lambda value: price_of(value, ""), lambda value: is_taken(value, ""), lambda value: runs_of(value, ""),
            lambda value: price_of(value, None), lambda value: is_taken(value, "A"), lambda value: runs_of(value, 1)]
        check_refused(self, InvalidMachine, calls, NO_MACHINES)

    def test_wrong_texts(self):
        calls = [lambda value: price_of(COUNT, value), lambda value: is_taken(COUNT, value),
            lambda value: runs_of(COUNT, value)]
        check_refused(self, InvalidText, calls, NO_TEXTS)

    def test_machines_stay_as_they_are(self):
        before = told_of(BLOCK)
        for _ in range(2):
            self.assertEqual([price_of(BLOCK, "bab"), runs_of(BLOCK, "babb"), is_taken(BLOCK, "a")], [1, 2, False])
            with self.assertRaises(InvalidText):
                price_of(BLOCK, "A")
        self.assertEqual(told_of(BLOCK), before)


class CheapestTest(unittest.TestCase):
    def test_against_all_runs(self):
        for machine in some_machines(40):
            for text in texts_up_to("ab", 4):
                runs = runs_along(machine, text)
                if not runs:
                    with self.assertRaises(NotTaken) as caught:
                        cheapest(machine, text)
                    self.assertEqual(caught.exception.untaken, text)
                    continue
                run = cheapest(machine, text)
                self.assertEqual(run.__class__, tuple)
                self.assertEqual(runs.get(run), min(runs.values()), (machine.lines, text))

    def test_judged_against_all_ways(self):
        for machine in some_machines(25):
            for text in texts_up_to("ab", 3):
                runs = runs_along(machine, text)
                for way in ways_along(machine, text):
                    told = way in runs and runs[way] == min(runs.values())
                    self.assertIs(is_cheapest(machine, text, way), told, (machine.lines, text, way))

    def test_texts_that_are_not_taken(self):
        for text in ("", "ab", "bac", "a" * 100000):
            with self.assertRaises(NotTaken) as caught:
                cheapest(BLOCK, text)
            self.assertEqual(caught.exception.untaken, text)
            self.assertIs(is_cheapest(BLOCK, text, ("p",) * (len(text) + 1)), False)

    def test_the_empty_text(self):
        self.assertEqual(cheapest(COUNT, ""), ("c",))
        self.assertIs(is_cheapest(COUNT, "", ("c",)), True)
        for value in ((), ("d",), ("c", "c"), "c", ["c"], (None,)):
            self.assertIs(is_cheapest(COUNT, "", value), False)
        self.assertIs(is_cheapest(APART, "", ("t",)), True)
        self.assertIs(is_cheapest(APART, "", ("s",)), False)
        self.assertIs(is_cheapest(APART, "", ("u",)), False)

    def test_every_value_is_judged(self):
        for value in NO_WAYS:
            self.assertIs(is_cheapest(BLOCK, "ab", value), False, shown(value))
        self.assertIs(is_cheapest(BLOCK, "baab", ["p", "q", "q", "q", "r"]), False)
        self.assertIs(is_cheapest(BLOCK, "baab", ("p", "q", "q", "q", "r")), True)
        # Dearer than another run, and ways that do not begin or end as runs do.
        self.assertIs(is_cheapest(BLOCK, "babb", ("p", "q", "q", "r", "r")), False)
        self.assertIs(is_cheapest(BLOCK, "babb", ("p", "p", "p", "q", "r")), True)
        self.assertIs(is_cheapest(BLOCK, "bb", ("p", "p", "p")), False)
        self.assertIs(is_cheapest(BLOCK, "bb", ("r", "r", "r")), False)

    def test_wrong_machines_and_texts(self):
        check_refused(self, InvalidMachine, [lambda value: cheapest(value, None), lambda value: cheapest(value, ""),
            lambda value: is_cheapest(value, None, None), lambda value: is_cheapest(value, "", ())], NO_MACHINES)
        check_refused(self, InvalidText, [lambda value: cheapest(COUNT, value),
            lambda value: is_cheapest(COUNT, value, None), lambda value: is_cheapest(COUNT, value, ("c",))], NO_TEXTS)


class RunPriceTest(unittest.TestCase):
    def test_against_all_ways(self):
        for machine in some_machines(25):
            for text in texts_up_to("ab", 3):
                for way, price in ways_along(machine, text).items():
                    self.assertEqual(run_price(machine, text, way), price, (machine.lines, text, way))

    def test_ways_that_are_no_runs(self):
        self.assertEqual([run_price(BLOCK, "a", ("q", "q")), run_price(BLOCK, "", ("q",))], [1, 0])

    def test_what_is_no_way(self):
        for value in NO_WAYS:
            with self.assertRaises(InvalidOperation, msg=shown(value)):
                run_price(BLOCK, "ab", value)
        for value in ((), ("x",), ("p", "p"), "p", [], ["p"], None):
            with self.assertRaises(InvalidOperation, msg=shown(value)):
                run_price(BLOCK, "", value)
        with self.assertRaises(InvalidOperation):
            run_price(COUNT, "c", ("c", "c"))

    def test_wrong_machines_and_texts(self):
        check_refused(self, InvalidMachine, [lambda value: run_price(value, None, None),
            lambda value: run_price(value, "", ("c",))], NO_MACHINES)
        check_refused(self, InvalidText, [lambda value: run_price(COUNT, value, None),
            lambda value: run_price(COUNT, value, ("c",))], NO_TEXTS)


class ManyTextsTest(unittest.TestCase):
    def check(self, machine, text, ways):
        """Checks all that is told of a text against all ways along it."""
        runs = {way: price for way, price in ways.items() if way[0] in machine.firsts and way[-1] in machine.lasts}
        price = min(runs.values(), default=None)
        self.assertEqual([price_of(machine, text), machine(text), runs_of(machine, text)], [price, price, len(runs)])
        self.assertEqual([is_taken(machine, text), text in machine], [price is not None] * 2, (machine.lines, text))
        rows = Costs.of_text(machine, text).rows
        for at, one in enumerate(machine.states):
            for to, other in enumerate(machine.states):
                prices = [price for way, price in ways.items() if (way[0], way[-1]) == (one, other)]
                self.assertEqual(rows[at][to], min(prices, default=-1))
        if price is None:
            with self.assertRaises(NotTaken):
                cheapest(machine, text)
        else:
            run = cheapest(machine, text)
            self.assertEqual([runs[run], run_price(machine, text, run)], [price, price])
            for run in runs:
                self.assertIs(is_cheapest(machine, text, run), runs[run] == price)

    def test_in_any_order_and_twice(self):
        told = random.Random(1)
        texts = texts_up_to("ab", 4) + ["c", "ca", "abcb", "z", "bz"]
        for machine in drawn_machines(3, (1, 2, 3, 4, 5)):
            ways = {text: ways_along(machine, text) for text in texts}
            order = texts + texts
            told.shuffle(order)
            for text in order:
                self.check(machine, text, ways[text])

    def test_with_other_machines_and_letters_between(self):
        told = random.Random(2)
        for seed in range(6):
            # Machines that differ in one arc, in their ends, or in nothing.
            one = drawn_machine(seed, 3, "abc")
            place = sorted(one.arcs)[seed]
            machines = [one, drawn_machine(seed, 3, "abc"), one.with_arc(*place, 9 - one.arcs[place]), one.without_arc(*place),
                one.with_ends(firsts=one.lasts, lasts=one.firsts), ~one, one | COUNT, drawn_machine(seed, 5)]
            cases = [(machine, text, ways_along(machine, text)) for machine in machines for text in texts_up_to("abcd", 2)]
            cases = told.sample(cases, 120) * 2
            told.shuffle(cases)
            for machine, text, ways in cases:
                self.check(machine, text, ways)

    def test_what_is_made_of_machines_that_have_read_texts(self):
        for machine in drawn_machines(6, (1, 2, 3)):
            texts = texts_up_to("ab", 4)
            before = [price_of(machine, text) for text in texts]
            pair = joined(machine, machine)
            for text in texts:
                parts = [(price_of(machine, text[:at]), price_of(machine, text[at:])) for at in range(len(text) + 1)]
                self.assertEqual(price_of(pair, text), min([sum(part) for part in parts if None not in part], default=None))
                self.assertEqual(price_of(~machine, text[::-1]), price_of(machine, text))
            self.assertEqual([price_of(machine, text) for text in texts], before)

    def test_nothing_that_is_told_changes_prices(self):
        for machine in drawn_machines(4, (2, 4)):
            before = [price_of(machine, text) for text in texts_up_to("ab", 4)]
            machine.arcs.clear()
            arcs = machine.arcs
            for place in arcs:
                arcs[place] = 9
            for value in ("A", None, ["a"], "a" * 100001):
                with self.assertRaises(InvalidText):
                    price_of(machine, value)
            self.assertEqual([price_of(machine, text) for text in texts_up_to("ab", 4)], before)

    def test_texts_longer_than_what_is_read_at_once(self):
        told = random.Random(4)
        for machine in [BLOCK, *drawn_machines(4, (1, 2, 3, 4, 5))]:
            for length in (63, 64, 65, 300):
                text = "".join(told.choice("ab") for _ in range(length))
                self.assertEqual(price_of(machine, text), Costs.of_text(machine, text).between(machine))
                half = Costs.of_text(machine, text[:40]) * Costs.of_text(machine, text[40:])
                self.assertEqual(half.between(machine), price_of(machine, text))
                runs = self.runs_by_steps(machine, text)
                self.assertEqual([runs_of(machine, text), text in machine], [runs, runs > 0])
                if runs:
                    self.assertIs(is_cheapest(machine, text, cheapest(machine, text)), True)

    def runs_by_steps(self, machine, text):
        """The number of the runs of a text, letter by letter."""
        counts = {state: int(state in machine.firsts) for state in machine.states}
        for letter in text:
            counts = {later: sum(counts[state] for state in counts if (state, letter, later) in machine.arcs)
                for later in machine.states}
        return sum(counts[state] for state in machine.lasts)

    def test_more_rows_than_are_kept(self):
        told = random.Random(5)
        with mock.patch.object(tracks, "MAX_NODES", 3):
            for machine in drawn_machines(2, (2, 3, 5)):
                cases = [(text, ways_along(machine, text)) for text in texts_up_to("ab", 4)] * 2
                told.shuffle(cases)
                for text, ways in cases:
                    self.check(machine, text, ways)
                    self.assertLessEqual(len(machine.track()._nodes), 3)
                full = machine.with_ends(firsts=machine.states, lasts=machine.states)
                texts = [text for text in texts_up_to("ab", 6) if price_of(full, text) is not None]
                for call in (price_of, cheapest, Costs.of_text):
                    call(full, texts[-1])
                    self.assertLessEqual(len(full.track()._nodes), 3)
        # Each text leads to other rows than all shorter ones.
        texts = ["b" + "a" * many for many in range(tracks.MAX_NODES + 100)]
        for text in [*texts, *texts[:5], texts[-1] + "b"]:
            self.assertEqual(row_of(BLOCK, 200, text), (0, min(text.count("a"), 201), -1) if text[-1] == "a" or text == "b"
                else (0, 0, 201), len(text))


class LongTextsTest(unittest.TestCase):
    def test_one_state(self):
        text = "a" * 100000
        self.assertEqual([price_of(LOOP, text), is_taken(LOOP, text), runs_of(LOOP, text)], [900000, True, 1])
        self.assertEqual(cheapest(LOOP, text), ("s",) * 100001)
        self.assertEqual(run_price(LOOP, text, ("s",) * 100001), 900000)
        self.assertIs(is_cheapest(LOOP, text, ("s",) * 100001), True)

    def test_growing_prices(self):
        text = "b" + "a" * 49998 + "b" + "a" * 49999 + "b"
        self.assertEqual(price_of(BLOCK, text), 49998)
        self.assertEqual(runs_of(BLOCK, text), 2)
        run = cheapest(BLOCK, text)
        self.assertEqual(run_price(BLOCK, text, run), 49998)
        self.assertIs(is_cheapest(BLOCK, text, run), True)
        self.assertEqual(runs_of(BLOCK, "b" * 100000), 99999)
        with self.assertRaises(InvalidText):
            price_of(BLOCK, text + "b")

    def test_24_states(self):
        ring = {(NAMES_24[at], "ab"[at & 1], NAMES_24[(at + 1) - 24]): at - at // 10 * 10 for at in range(24)}
        machine = Machine(("qa",), ("qa",), ring)
        self.assertEqual(price_of(machine, "ab" * 49992), 96 * 4166)
        self.assertEqual(cheapest(machine, "ab" * 12), NAMES_24 + ("qa",))
        every = {(one, letter, other): 1 for one in NAMES_24 for letter in "ab" for other in NAMES_24}
        machine = Machine(NAMES_24, NAMES_24, every)
        self.assertEqual(price_of(machine, "ab" * 50000), 100000)
        self.assertEqual(run_price(machine, "ab" * 50000, cheapest(machine, "ab" * 50000)), 100000)
        self.assertEqual(runs_of(machine, "ab" * 2000), 24 ** 4001)

    def test_long_numbers_of_runs(self):
        machine = Machine(("s",), ("s", "t"), {(one, "a", other): 0 for one in "st" for other in "st"})
        self.assertEqual(runs_of(machine, "a" * 100000), 2 ** 100000)
