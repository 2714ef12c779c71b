"""All runs of machines, dear rings, and texts with two runs."""

import itertools
import unittest

from lastprices.base.machines import Machine
from lastprices.decide.papers import is_limited, last_price
from lastprices.decide.rings import (dear_ring, dearest_run, is_dear_ring, is_deterministic, is_two_runs, is_unambiguous,
    run_bound, two_runs)
from lastprices.errors import InvalidMachine
from lastprices.read.combined import free
from lastprices.read.prices import price_of, run_price, runs_of
from tests.force import least_price, runs_along, some_machine, some_machines, texts_up_to, ways_along
from tests.values import (BLOCK, COUNT, DEAL, MARK, NAMES_24, NO_MACHINES, NO_STRINGS, NO_TEXTS, ODD, check_judge,
    check_refused, told_of)

NOTHING = Machine(("a",), ("b",), {("a", "a", "a"): 1, ("b", "b", "b"): 1})
BARE = Machine(("s",), ("t",), {})
EMPTY = Machine(("s", "t"), ("s", "t"), {})
# From a dear loop no last state is reached, and another one is not reached itself.
AWAY = Machine(("s",), ("t",), {("s", "a", "t"): 2, ("s", "b", "d"): 1, ("d", "b", "d"): 1, ("e", "a", "e"): 1, ("e", "b", "t"): 1})


def is_ring_by_force(machine, value):
    """Whether a triple of texts is a dear ring, by all ways along them."""
    before, around, behind = (ways_along(machine, text) for text in value)
    return any(one[0] in machine.firsts and ring[0] == one[-1] == ring[-1] and price > 0 and other[0] == ring[0]
        and other[-1] in machine.lasts for one in before for ring, price in around.items() for other in behind)


def dear_arcs(machine):
    """Whether some arc of a price of at least 1 lies on a ring through which runs go, by reachable states."""
    reach = {state: {state} for state in machine.states}
    for _ in machine.states:
        for one, _, other in machine.arcs:
            for state in machine.states:
                if one in reach[state]:
                    reach[state].add(other)
    return any(price > 0 and one in reach[other] and any(one in reach[first] for first in machine.firsts)
        and any(last in reach[one] for last in machine.lasts) for (one, _, other), price in machine.arcs.items())


def sparse_machines(many):
    """Small machines with few arcs, many of them without dear rings or without texts with two runs."""
    made = []
    for seed in range(many):
        machine = some_machine(seed)
        places = sorted(machine.arcs)
        for at, (one, letter, other) in enumerate(places):
            if (at * 7 + seed) % 3:
                machine = machine.without_arc(one, letter, other)
        made.append(machine)
    return made


MACHINES = [BLOCK, COUNT, DEAL, MARK, ODD, NOTHING, BARE, EMPTY, AWAY, free(BLOCK), *some_machines(40), *sparse_machines(120)]


class BoundTest(unittest.TestCase):
    def test_against_force(self):
        bounded = 0
        for machine in MACHINES:
            self.assertIs(run_bound(machine) is None, dear_arcs(machine), machine.lines)
            if run_bound(machine) is None:
                self.assertEqual(dearest_run(machine), None)
                continue
            bounded += 1
            # Without dear rings no run is dearer than those that come to no state twice.
            prices = [price for text in texts_up_to(machine.letters, len(machine) - 1 if len(machine) < 5 else 3)
                for price in runs_along(machine, text).values()]
            self.assertEqual(run_bound(machine), max(prices, default=0), machine.lines)
            told = dearest_run(machine)
            self.assertEqual(told is None, not prices, machine.lines)
            if told is not None:
                self.assertEqual(runs_along(machine, told[0])[told[1]], run_bound(machine))
                self.assertEqual([told.__class__, told[1].__class__], [tuple, tuple])
        self.assertGreater(bounded, 40)

    def test_machines_without_runs_or_without_arcs(self):
        for machine in (NOTHING, BARE):
            self.assertEqual([run_bound(machine), dear_ring(machine), dearest_run(machine)], [0, None, None])
        self.assertEqual(run_bound(EMPTY), 0)
        self.assertIn(dearest_run(EMPTY), [("", ("s",)), ("", ("t",))])
        self.assertEqual([run_bound(AWAY), dear_ring(AWAY), dearest_run(AWAY)], [2, None, ("a", ("s", "t"))])

    def test_long_runs(self):
        arcs = {(one, letter, other): price for at, (one, other) in enumerate(zip(NAMES_24, NAMES_24[1:]))
            for letter, price in (("a", 9 if at else 8), ("b", 1))}
        machine = Machine(("qa",), NAMES_24, arcs)
        self.assertEqual([run_bound(machine), dearest_run(machine)], [22 * 9 + 8, ("a" * 23, NAMES_24)])
        free_ring = machine.with_arc("qx", "c", "qx", 0)
        self.assertEqual(run_bound(free_ring), 206)
        self.assertEqual(run_bound(machine.with_arc("qx", "c", "qa", 0)), None)
        every = {(one, letter, other): 0 for one in NAMES_24 for letter in "abc" for other in NAMES_24}
        self.assertEqual([run_bound(Machine(NAMES_24, NAMES_24, every)), dear_ring(Machine(NAMES_24, NAMES_24, every))], [0, None])
        self.assertEqual(len("".join(dear_ring(Machine(NAMES_24, NAMES_24, {**every, ("qc", "b", "qc"): 1})))), 1)

    def test_true_statements(self):
        for machine in MACHINES:
            if run_bound(machine) is not None:
                self.assertLessEqual(last_price(machine), run_bound(machine))
            if is_unambiguous(machine):
                self.assertIs(is_limited(machine), run_bound(machine) is not None, machine.lines)
                self.assertIn(last_price(machine), (run_bound(machine), None))


class RingTest(unittest.TestCase):
    def test_as_short_as_possible(self):
        found = 0
        for machine in MACHINES:
            told = dear_ring(machine)
            self.assertIs(told is None, not dear_arcs(machine), machine.lines)
            if told is None:
                continue
            found += 1
            self.assertIs(is_ring_by_force(machine, told), True, (machine.lines, told))
            self.assertIs(is_dear_ring(machine, told), True)
            many = len("".join(told))
            for text in texts_up_to(machine.letters, min(many - 1, 4)):
                for begin, end in itertools.combinations_with_replacement(range(len(text) + 1), 2):
                    value = (text[:begin], text[begin:end], text[end:])
                    self.assertIs(is_ring_by_force(machine, value), False, (machine.lines, value))
        self.assertGreater(found, 40)

    def test_judged_against_force(self):
        for machine in MACHINES[:40]:
            texts = texts_up_to("ab", 2) + ["aab", "c"]
            for value in itertools.product(texts, repeat=3):
                self.assertIs(is_dear_ring(machine, value), is_ring_by_force(machine, value), (machine.lines, value))

    def test_rings_that_cost_nothing_or_lead_nowhere(self):
        check_judge(self, lambda value: is_dear_ring(COUNT, value), [("", "b", ""), ("ab", "aba", "bb"), ("", "b", "a")],
            [("", "", ""), ("", "a", ""), ("b", "a", "b"), ("", "c", ""), ("c", "b", ""), ("", "b", "c"), ("b", "", "b")])
        check_judge(self, lambda value: is_dear_ring(BLOCK, value), [("b", "a", "b"), ("bab", "aaa", "bba")],
            [("", "a", "b"), ("b", "a", ""), ("b", "b", "b"), ("bb", "", "b"), ("a", "a", "bb")])
        check_judge(self, lambda value: is_dear_ring(AWAY, value), [], [("b", "b", ""), ("", "a", "b"), ("", "a", ""), ("b", "b", "b")])
        # A ring that costs something only along one of two ways.
        machine = Machine(("s",), ("s",), {("s", "a", "s"): 0, ("s", "a", "t"): 0, ("t", "a", "s"): 1})
        check_judge(self, lambda value: is_dear_ring(machine, value), [("", "aa", ""), ("a", "aaa", "")], [("", "a", "")])

    def test_other_values(self):
        good = ("", "b", "")
        bad = [*NO_STRINGS, list(good), ("", "b"), ("", "b", "", ""), ("b",), "b", ("", ["b"], ""), (("",), "b", ""), {"": "b"},
            ("", "b", None), (0, "b", ""), ("", "B", ""), ("", "b", "b "), ("-", "b", ""), "aba", ("", "b" * 100001, "")]
        check_judge(self, lambda value: is_dear_ring(COUNT, value), [good, ("a" * 100000, "b" * 100000, "b" * 100000)], bad)
        check_judge(self, lambda value: is_dear_ring(COUNT, value), [],
            [("", value, "") for value in NO_TEXTS] + [(value, "b", "") for value in NO_TEXTS])

    def test_long_texts_in_great_machines(self):
        arcs = {(one, letter, NAMES_24[(at * step + 1) % 24]): (at + step) % 3 % 2
            for at, one in enumerate(NAMES_24) for letter, step in (("a", 1), ("a", 5), ("b", 7), ("b", 2))}
        machine = Machine(NAMES_24, NAMES_24[:3], arcs)
        text = ("ab" * 7 + "a") * 6666
        self.assertIs(is_dear_ring(machine, (text, text, text)), True)
        every = {(one, letter, other): 0 for one in NAMES_24 for letter in "ab" for other in NAMES_24}
        self.assertIs(is_dear_ring(Machine(NAMES_24, NAMES_24, every), (text, text, text)), False)


class TwoRunsTest(unittest.TestCase):
    def test_as_short_as_possible(self):
        found = {True: 0, False: 0}
        for machine in MACHINES:
            told = two_runs(machine)
            found[told is None] += 1
            self.assertIs(is_unambiguous(machine), told is None)
            if told is None:
                for text in texts_up_to(machine.letters, 6):
                    self.assertLess(runs_of(machine, text), 2, (machine.lines, text))
                continue
            text, one, other = told
            runs = runs_along(machine, text)
            self.assertEqual([one in runs, other in runs, one < other], [True, True, True], (machine.lines, told))
            self.assertIs(is_two_runs(machine, told), True)
            for shorter in texts_up_to(machine.letters, min(len(text) - 1, 5)):
                self.assertLess(len(runs_along(machine, shorter)), 2, (machine.lines, shorter))
        self.assertGreater(min(found.values()), 30)

    def test_the_empty_text(self):
        self.assertEqual([two_runs(EMPTY), two_runs(BARE)], [("", ("s",), ("t",)), None])
        self.assertIs(is_two_runs(EMPTY, ("", ("t",), ("s",))), False)

    def test_judged(self):
        good = ("bbb", ("p", "p", "q", "r"), ("p", "q", "r", "r"))
        one, other = good[1:]
        check_judge(self, lambda value: is_two_runs(BLOCK, value),
            [good, ("abbb", ("p", *one), ("p", *other)), ("bab" + "b", ("p", "p", "p", "q", "r"), ("p", "q", "q", "r", "r"))],
            [("bbb", other, one), ("bbb", one, one), ("bbb", other, other), ("bbb", one), ("bbb", one, other, other), list(good),
            ("bbb", list(one), other), ("bbb", one, list(other)), ("bb", one, other), ("bba", one, other), ("", (), ()),
            # Ways that are no runs.
            ("bbb", ("p", "p", "p", "p"), one), ("bbb", one, ("r", "r", "r", "r")), ("b", ("p", "p"), ("p", "q")),
            ("bbb", "ppqr", "pqrr"), ("BBB", one, other), (None, one, other), ("bbb", None, None), ("bbb", one, None),
            ("bbb", ("p", "p", "q", None), other), ("bbb", ("p", "p", ["q"], "r"), other), {"bbb": one}, "bbb", good[::-1]])
        check_judge(self, lambda value: is_two_runs(BLOCK, value), [], [*NO_STRINGS, *[(value, one, other) for value in NO_TEXTS],
            *[("bbb", value, other) for value in NO_STRINGS], *[("bbb", one, value) for value in NO_STRINGS]])

    def test_all_pairs_of_ways(self):
        for machine in MACHINES[:30]:
            for text in texts_up_to("ab", 2):
                ways = list(ways_along(machine, text))[:12]
                runs = runs_along(machine, text)
                for one, other in itertools.product(ways, repeat=2):
                    told = one in runs and other in runs and one < other
                    self.assertIs(is_two_runs(machine, (text, one, other)), told)

    def test_long_texts(self):
        text = "b" * 100000
        one, other = ("p", "q") + ("r",) * 99999, ("p", "p", "q") + ("r",) * 99998
        self.assertIs(is_two_runs(BLOCK, (text, other, one)), True)
        self.assertIs(is_two_runs(BLOCK, (text, one, other)), False)

    def test_great_machines(self):
        # A ring of all states, which is left in two ways only far from each other.
        arcs = {(one, "a", other): 0 for one, other in zip(NAMES_24, NAMES_24[1:] + NAMES_24[:1])}
        machine = Machine(("qa",), ("qx",), {**arcs, ("qa", "b", "qb"): 0, ("qb", "b", "qa"): 0})
        self.assertEqual(two_runs(machine), None)
        more = Machine(("qa",), ("qx",), {**arcs, ("qx", "a", "qb"): 0})
        text, one, other = two_runs(more)
        self.assertEqual([price_of(more, text), is_two_runs(more, (text, one, other))], [0, True])
        self.assertEqual(runs_of(more, text[:-1]) < 2, True)
        every = {(one, letter, other): 0 for one in NAMES_24 for letter in "abcdefgh" for other in NAMES_24}
        self.assertEqual(two_runs(Machine(NAMES_24, NAMES_24, every))[0], "")
        self.assertEqual(len(two_runs(Machine(NAMES_24[:1], NAMES_24[:1], every))[0]), 2)


class KindsTest(unittest.TestCase):
    def test_deterministic_ones(self):
        for machine in MACHINES:
            told = len(machine.firsts) == 1 and all(len(machine.steps(state, letter)) < 2
                for state in machine.states for letter in machine.letters)
            self.assertIs(is_deterministic(machine), told, machine.lines)
            if told:
                self.assertIs(is_unambiguous(machine), True)
        self.assertEqual([is_deterministic(machine) for machine in (COUNT, BLOCK, MARK, EMPTY, BARE)],
            [True, False, True, False, True])

    def test_wrong_machines(self):
        check_refused(self, InvalidMachine, [run_bound, dear_ring, dearest_run, is_deterministic, is_unambiguous, two_runs,
            lambda value: is_dear_ring(value, None), lambda value: is_dear_ring(value, ("", "b", "")),
            lambda value: is_two_runs(value, None), lambda value: is_two_runs(value, ("", ("s",), ("t",)))], NO_MACHINES)

    def test_machines_stay_as_they_are(self):
        before = [told_of(machine) for machine in (BLOCK, DEAL, ODD)]
        for call in (run_bound, dear_ring, dearest_run, is_deterministic, is_unambiguous, two_runs):
            self.assertEqual([call(machine) for machine in (BLOCK, DEAL, ODD)], [call(machine) for machine in (BLOCK, DEAL, ODD)])
        self.assertEqual([told_of(machine) for machine in (BLOCK, DEAL, ODD)], before)
        self.assertEqual(run_price(MARK, *dearest_run(MARK)), least_price(MARK, "a"))
