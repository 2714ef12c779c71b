"""How many texts are taken, and which."""

import inspect
import itertools
import random
import unittest
from unittest import mock

from lastprices.base.machines import Machine
from lastprices.errors import InvalidMachine, InvalidNumber, TooMany
from lastprices.read import prices, subsets
from lastprices.read.combined import free, turned
from lastprices.read.prices import count_taken, each_taken
from tests.force import least_price, some_machines, texts_up_to
from tests.values import BLOCK, COUNT, NAMES_24, NO_MACHINES, NO_NUMBERS, check_refused, told_of

ALPHABET = "abcdefghijklmnopqrstuvwxyz"


def shifting(many):
    """A machine in which the last letters of a text tell in which of so many states it is: `b` adds one, and all move."""
    arcs = {("qa", "a", "qa"): 0, ("qa", "b", "qa"): 0, ("qa", "b", "qb"): 0}
    for at in range(1, many - 1):
        for letter in "ab":
            arcs[NAMES_24[at], letter, NAMES_24[at + 1]] = 0
    return Machine(("qa",), (NAMES_24[many - 1],), arcs)


def sets_by_force(machine):
    """All sets of states to which texts lead, those of letters that no arc has, too."""
    seen = [frozenset(machine.firsts)]
    for states in seen:
        for letter in ALPHABET:
            after = frozenset(later for state in states for later, _ in machine.steps(state, letter))
            if after not in seen:
                seen.append(after)
    return seen


def at_the_limit():
    """A machine with just 20000 sets of states, the empty one among them: 5 * 5 * 5 * 5 * 2 * 2 * 2 * 2 * 2."""
    places = []
    names = []
    for letter in "abcd":
        names += [f"s{letter}{other}" for other in "abcd"]
        # This letter moves what is left of four states, and the others leave it where it is.
        places += [(f"s{letter}{one}", letter, f"s{letter}{other}") for one, other in zip("abc", "bcd")]
        places += [(name, other, name) for name in names[-4:] for other in "abcdefghi" if other != letter]
    for letter in "efghi":
        names.append(f"k{letter}")
        places += [(names[-1], other, names[-1]) for other in "abcdefghi" if other != letter]
    return Machine(tuple(sorted(names)), tuple(sorted(names)), {place: 0 for place in places})


class CountTest(unittest.TestCase):
    def test_against_all_texts(self):
        for machine in some_machines(60):
            for length in range(5):
                taken = [text for text in texts_up_to("ab", length) if len(text) == length
                    and least_price(machine, text) is not None]
                self.assertEqual(list(each_taken(machine, length)), taken, machine.lines)
                self.assertEqual(count_taken(machine, length), len(taken), machine.lines)

    def test_no_letters_at_all(self):
        self.assertEqual([count_taken(COUNT, 0), list(each_taken(COUNT, 0))], [1, [""]])
        self.assertEqual([count_taken(BLOCK, 0), list(each_taken(BLOCK, 0))], [0, []])

    def test_machines_that_take_no_text(self):
        nothing = Machine(("a",), ("b",), {("a", "a", "a"): 1, ("b", "b", "b"): 1})
        for length in (0, 1, 2, 200):
            self.assertEqual([count_taken(nothing, length), list(each_taken(nothing, length))], [0, []])
        self.assertEqual([count_taken(Machine(("a",), ("a",), {}), length) for length in (0, 1, 200)], [1, 0, 0])

    def test_texts_with_several_runs_count_once(self):
        arcs = {(one, letter, other): 0 for one in "st" for letter in "xyz" for other in "st"}
        self.assertEqual(count_taken(Machine(("s", "t"), ("s", "t"), arcs), 7), 3 ** 7)

    def test_ascending(self):
        arcs = {("s", letter, "s"): 0 for letter in "zmaq"}
        machine = Machine(("s",), ("s",), arcs)
        self.assertEqual(list(each_taken(machine, 2)), sorted(one + other for one in "amqz" for other in "amqz"))

    def test_the_greatest_length(self):
        self.assertEqual(count_taken(COUNT, 200), 2 ** 200)
        self.assertEqual(count_taken(BLOCK, 200), 2 ** 200 - 201)
        ring = Machine(("s",), ("s",), {("s", "a", "t"): 0, ("t", "a", "u"): 0, ("u", "a", "v"): 0, ("v", "a", "s"): 0})
        self.assertEqual([list(each_taken(ring, length)) for length in (199, 200)], [[], ["a" * 200]])
        self.assertEqual(list(itertools.islice(each_taken(BLOCK, 200), 3)),
            ["a" * 198 + "bb", "a" * 197 + "bab", "a" * 197 + "bba"])

    def test_wrong_machines(self):
        check_refused(self, InvalidMachine, [lambda value: count_taken(value, 0), lambda value: count_taken(value, None),
            lambda value: list(each_taken(value, 0)), lambda value: list(each_taken(value, -1))], NO_MACHINES)

    def test_wrong_lengths(self):
        calls = [lambda value: count_taken(COUNT, value), lambda value: list(each_taken(COUNT, value)),
            lambda value: count_taken(shifting(24), value), lambda value: list(each_taken(shifting(24), value))]
        check_refused(self, InvalidNumber, calls, NO_NUMBERS)

    def test_machines_stay_as_they_are(self):
        before = told_of(BLOCK)
        for _ in range(2):
            self.assertEqual([count_taken(BLOCK, 3), len(list(each_taken(BLOCK, 4)))], [4, 11])
        self.assertEqual(told_of(BLOCK), before)

    def test_constant(self):
        self.assertEqual(prices.MAX_LENGTH, 200)


class TooManySetsTest(unittest.TestCase):
    def test_more_than_20000_sets(self):
        for many in (16, 24):
            for length in (0, 1, 200):
                for call in (lambda: count_taken(shifting(many), length),
                        lambda: list(each_taken(shifting(many), length))):
                    with self.assertRaises(TooMany) as caught:
                        call()
                    self.assertEqual(caught.exception.limit, 20000)

    def test_just_below(self):
        # 2 ** 14 sets with the first state in them, and the empty one.
        self.assertEqual(count_taken(shifting(15), 200), 2 ** 199)
        self.assertEqual(next(each_taken(shifting(15), 200)), "a" * 186 + "b" + "a" * 13)

    def test_20000_and_20001_sets(self):
        self.assertEqual(count_taken(at_the_limit(), 0), 1)
        self.assertEqual(next(each_taken(at_the_limit(), 1)), "a")
        more = at_the_limit().with_arc("ke", "z", "new", 0)
        for call in (lambda: count_taken(more, 0), lambda: next(each_taken(more, 1))):
            with self.assertRaises(TooMany) as caught:
                call()
            self.assertEqual(caught.exception.limit, 20000)

    def test_what_leads_nowhere_takes_no_time(self):
        machine = Machine(("s",), ("s",), {("s", "a", "s"): 0, ("s", "b", "a"): 0, ("a", "a", "a"): 0, ("a", "b", "z"): 0,
            ("z", "a", "z"): 0, ("z", "b", "a"): 0})
        self.assertEqual(list(each_taken(machine, 200)), ["a" * 200])

    def test_the_limit_itself(self):
        self.assertEqual(subsets.MAX_SETS, 20000)
        for machine in some_machines(20) + [shifting(5), shifting(6)]:
            many = len(sets_by_force(machine))
            with mock.patch.object(subsets, "MAX_SETS", many):
                count_taken(machine, 2)
                list(each_taken(machine, 2))
            with mock.patch.object(subsets, "MAX_SETS", many - 1):
                with self.assertRaises(TooMany):
                    count_taken(machine, 0)
                with self.assertRaises(TooMany):
                    next(each_taken(machine, 0))

    def test_machines_with_all_letters_have_no_empty_set(self):
        every = Machine(("s",), ("s",), {("s", letter, "s"): 0 for letter in ALPHABET})
        self.assertEqual(len(sets_by_force(every)), 1)
        with mock.patch.object(subsets, "MAX_SETS", 1):
            self.assertEqual(count_taken(every, 2), 26 ** 2)
            with self.assertRaises(TooMany):
                count_taken(every.without_arc("s", "q", "s"), 2)


class NumberedSetsTest(unittest.TestCase):
    def machines(self):
        """Machines of few and of many states and letters."""
        told = random.Random(29)
        machines = [*some_machines(40), shifting(4), shifting(7), turned(shifting(6)), at_the_limit()]
        for many in (5, 8, 13, 24):
            places = [(one, letter, other) for one in NAMES_24[:many] for letter in "abyz" for other in NAMES_24[:many]]
            machines.append(Machine(NAMES_24[:2], NAMES_24[many - 1:many], {place: 0 for place in told.sample(places, 3 * many)}))
        return machines

    def check(self, machine):
        """All sets, and where the letters lead from them, are the same as step by step."""
        sets, afters = subsets.numbered_sets(machine)
        states = machine.states
        told = [frozenset(state for at, state in enumerate(states) if bits >> at & 1) for bits in sets]
        self.assertEqual(told[0], frozenset(machine.firsts))
        self.assertEqual(len(set(told)), len(told))
        self.assertEqual(len(afters), len(sets))
        every = set(told) if len(sets) > 500 else set(sets_by_force(machine))
        self.assertEqual(set(told), every)
        for number in range(0, len(sets), 1 + len(sets) // 400):
            for at, letter in enumerate(machine.letters):
                later = frozenset(state for one in told[number] for state, _ in machine.steps(one, letter))
                self.assertEqual(told[afters[number][at]], later, machine.lines)

    def test_all_at_once_and_one_by_one(self):
        for machine in self.machines():
            for few in (2, 3, 10, 40):
                for many in (1, 2, 7, 1000):
                    if len(machine) < 10 or many == 1000:
                        with mock.patch.object(subsets, "FEW", few), mock.patch.object(subsets, "MANY", many):
                            self.check(machine)

    def test_counts_by_both(self):
        for machine in self.machines()[:46]:
            told = [(count_taken(machine, length), list(each_taken(machine, length))) for length in range(4)]
            with mock.patch.object(subsets, "FEW", 2), mock.patch.object(subsets, "MANY", 2):
                again = [(count_taken(machine, length), list(each_taken(machine, length))) for length in range(4)]
            self.assertEqual(again, told)
            self.assertEqual([many for many, _ in told], [len(texts) for _, texts in told])

    def test_sixteen_states_in_a_row(self):
        names = ["s" + letter for letter in "abcdefghijklmnop"]
        lines = ["first sa", "last sp", "arc sa a 0 sa", "arc sa b 0 sa", "arc sa b 0 sb"]
        lines += [f"arc {one} {letter} 0 {other}" for one, other in zip(names[1:], names[2:]) for letter in "ab"]
        for length in (0, 3, 200):
            with self.assertRaises(TooMany) as caught:
                count_taken(Machine.from_lines(*lines), length)
            self.assertEqual(caught.exception.limit, 20000)
        fewer = Machine.from_lines("first sa", "last so", *[line for line in lines[2:] if "sp" not in line])
        self.assertEqual([count_taken(fewer, length) for length in (3, 13, 14, 20)], [0, 0, 2 ** 13, 2 ** 19])
        self.assertEqual(next(each_taken(fewer, 14)), "b" + "a" * 13)


class GeneratorTest(unittest.TestCase):
    def test_results_come_one_by_one(self):
        told = each_taken(free(COUNT), 200)
        self.assertTrue(inspect.isgenerator(told))
        self.assertEqual([next(told), next(told), next(told)], ["a" * 200, "a" * 199 + "b", "a" * 198 + "ba"])
        again = each_taken(free(COUNT), 200)
        self.assertEqual([next(again), next(told)], ["a" * 200, "a" * 198 + "bb"])

    def test_errors_come_with_the_first_result(self):
        for told, error in ((each_taken(None, 0), InvalidMachine), (each_taken(COUNT, 201), InvalidNumber),
                (each_taken(COUNT, -1), InvalidNumber), (each_taken(shifting(24), 3), TooMany)):
            with self.assertRaises(error):
                next(told)
