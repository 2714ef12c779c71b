"""Whether webs have growing squares, found in the ways for machines with few states and with many."""

import unittest
from unittest import mock

from lastprices.base.machines import Machine
from lastprices.decide.papers import is_limited, last_price, worst_text
from lastprices.decide.rings import dear_ring, is_dear_ring, run_bound
from lastprices.errors import TooMany
from lastprices.read.combined import turned
from lastprices.signs import webs
from lastprices.signs.compact import Compact
from lastprices.signs.squares import Square
from lastprices.signs.webs import Web, has_growing_square
from tests.force import drawn_machines, some_machines
from tests.test_dear import fresh
from tests.test_webs import apart, maps_of_five, web_by_force
from tests.values import BLOCK, COUNT, DEAL, MARK, NAMES_24, ODD

# Its web has 243 squares, and so has that of the machine turned round.
ASKED = Machine.from_lines("first p", "last q s", "arc p a 0 q", "arc p b 1 s", "arc q a 0 q", "arc q b 2 t", "arc s a 9 p",
    "arc s b 0 q", "arc t a 0 s", "arc t b 0 p")


def grows_by_web(machine):
    """Whether one of the squares of the web grows, by the web that is told."""
    return any(Square(rows).between(machine) == "n" for rows in Web(machine))


def small_machines(many, most):
    """So many machines with up to four states and with webs of at most so many squares, and all of them turned round."""
    drawn = [machine for machine in drawn_machines(60, (1, 2, 3, 4)) if len(Web(machine)) <= most]
    return [machine for one in drawn[::max(len(drawn) // many, 1)][:many] for machine in (one, turned(one))]


class SquaresTest(unittest.TestCase):
    def test_against_force(self):
        for machine in [COUNT, MARK, ODD, BLOCK, *some_machines(60), *drawn_machines(6, (1, 2, 3))]:
            squares = web_by_force(machine)
            growing = [rows for rows in squares if Square(rows).between(machine) == "n"]
            compact = Compact(machine, len(squares))
            self.assertIs(compact.is_whole(), True, machine.lines)
            self.assertIs(compact.has_growing(machine), len(growing) > 0, machine.lines)
            self.assertIs(Compact(machine, len(squares) - 1).is_whole(), False, machine.lines)

    def test_against_webs(self):
        for machine in [DEAL, ASKED, turned(ASKED), *drawn_machines(12, (3, 4, 5)), apart("eef", "ei"), apart("eeeeee", "ff")]:
            try:
                web = Web(machine)
            except TooMany:
                self.assertIs(Compact(machine, 3000).is_whole(), False)
                continue
            compact = Compact(machine, len(web))
            self.assertEqual([compact.is_whole(), compact.has_growing(machine)], [True, len(web.growing) > 0], machine.lines)
            self.assertIs(Compact(machine, len(web) - 1).is_whole(), False)

    def test_without_letters(self):
        for machine in (Machine(("s",), ("s",), {}), Machine(("s", "t", "u"), ("t",), {})):
            compact = Compact(machine, 0)
            self.assertEqual([compact.is_whole(), compact.has_growing(machine)], [True, False])

    def test_both_ways_tell_the_same(self):
        machines = [DEAL, ASKED, turned(ASKED), apart("ee", "ee"), *some_machines(40), *drawn_machines(8, (4, 5))]
        machines += [BLOCK | DEAL, turned(BLOCK) | DEAL, Machine(("s",), ("s",), {})]
        seen = {True: 0, False: 0}
        for machine in machines:
            told = []
            for few in (0, 24):
                with mock.patch.object(webs, "FEW_STATES", few):
                    try:
                        told.append(has_growing_square(fresh(machine)))
                    except TooMany as error:
                        told.append(error.limit)
            self.assertEqual(told[0], told[1], machine.lines)
            if told[0] != 3000:
                seen[told[0]] += 1
                self.assertIs(told[0], grows_by_web(machine))
        self.assertGreater(min(seen.values()), 10)

    def test_firsts_and_lasts(self):
        # The same web has growing squares or none, as ends are told.
        arcs = {("s", "a", "s"): 1, ("t", "a", "t"): 0, ("s", "b", "t"): 0, ("u", "a", "u"): 1, ("u", "b", "s"): 3}
        for firsts in (("s",), ("t",), ("u",), ("s", "t"), ("s", "u"), ("s", "t", "u")):
            for lasts in (("s",), ("t",), ("u",), ("t", "u"), ("s", "t"), ("s", "t", "u")):
                machine = Machine(firsts, lasts, arcs)
                self.assertIs(is_limited(machine), not grows_by_web(machine), machine.lines)


class AskedTest(unittest.TestCase):
    def test_a_machine_that_was_asked_often(self):
        for machine in (ASKED, turned(ASKED)):
            self.assertEqual(len(Web(machine)), 243)
            for _ in range(2):
                self.assertEqual([is_limited(machine), last_price(machine), worst_text(machine)], [False, None, None])
                self.assertIs(run_bound(machine), None)
                self.assertIs(is_dear_ring(machine, dear_ring(machine)), True)
        self.assertEqual(sum(len(text) for text in dear_ring(ASKED)), sum(len(text) for text in dear_ring(turned(ASKED))))

    def test_many_small_machines(self):
        seen = {True: 0, False: 0}
        for machine in small_machines(40, 60):
            limited = not grows_by_web(machine)
            seen[limited] += 1
            one, other = fresh(machine), fresh(machine)
            # In whatever order these are asked, and how often.
            told = [last_price(one), is_limited(one), run_bound(one), dear_ring(one), is_limited(one), last_price(one)]
            again = [dear_ring(other), run_bound(other), is_limited(other), last_price(other), dear_ring(other)]
            self.assertEqual(told[1:], [limited, again[1], again[0], limited, told[0]], machine.lines)
            self.assertEqual([told[0], again[0]], [again[3], again[4]], machine.lines)
            self.assertIs(told[0] is None, not limited)
            self.assertIs(told[2] is None, told[3] is not None)
            if told[2] is not None:
                self.assertLessEqual(told[0], told[2])
        self.assertGreater(min(seen.values()), 10)

    def test_too_many_squares(self):
        machine = maps_of_five()
        for call in (is_limited, last_price, worst_text, is_limited):
            with self.assertRaises(TooMany) as caught:
                call(machine)
            self.assertEqual(caught.exception.limit, 3000)
        with mock.patch.object(webs, "MAX_SQUARES", 5 ** 5):
            self.assertEqual([is_limited(machine), last_price(machine)], [True, 0])
        with mock.patch.object(webs, "MAX_SQUARES", 242):
            for call in (is_limited, last_price):
                with self.assertRaises(TooMany):
                    call(fresh(ASKED))
        with mock.patch.object(webs, "MAX_SQUARES", 243):
            self.assertIs(is_limited(fresh(ASKED)), False)

    def test_machines_with_more_states(self):
        # A web that is found in the way for many states, with and without growing squares.
        names = NAMES_24[:10]
        ring = {(one, "a", other): 0 for one, other in zip(names, (*names[1:], names[0]))}
        machine = Machine(names[:1], names[:1], ring)
        self.assertEqual([is_limited(machine), last_price(machine)], [True, 0])
        dear = machine.with_arc(names[4], "a", names[5], 7)
        self.assertEqual([is_limited(dear), last_price(dear), is_limited(dear)], [False, None, False])
