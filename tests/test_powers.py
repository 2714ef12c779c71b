"""Finite powers, and texts that are put together of pieces."""

import itertools
import unittest

from lastprices.base.machines import Machine
from lastprices.decide.papers import is_limited, last_price
from lastprices.decide.powers import (has_finite_power, is_split, least_pieces, power, powers_taken, split, splits_of)
from lastprices.errors import InvalidMachine, InvalidText, NotTaken, TooMany
from lastprices.read.combined import free, pieces
from lastprices.read.prices import is_taken
from tests.force import least_price, some_machines, texts_up_to
from tests.test_papers import chain
from tests.values import (BLOCK, COUNT, DEAL, MARK, NAMES_24, NO_MACHINES, NO_STRINGS, NO_TEXTS, ODD, check_judge,
    check_refused, told_of)

NOTHING = Machine(("a",), ("b",), {("a", "a", "a"): 1, ("b", "b", "b"): 1})
ABS = Machine.from_lines("first s", "last t", "arc s a 0 s", "arc s b 0 t")
MACHINES = [BLOCK, COUNT, MARK, ODD, ABS, NOTHING, *some_machines(40)]


def ring(many, letters="a"):
    """A machine that goes round so many states."""
    names = NAMES_24[:many]
    arcs = {(one, letter, other): 0 for one, other in zip(names, names[1:] + names[:1]) for letter in letters}
    return Machine(names[:1], names[-1:], arcs)


def splits_by_force(machine, text):
    """All tuples of pieces that put a text together."""
    if text == "":
        return [()]
    found = []
    for many in range(1, len(text) + 1):
        for cuts in itertools.combinations(range(1, len(text)), many - 1):
            ends = (0, *cuts, len(text))
            told = tuple(text[begin:end] for begin, end in zip(ends, ends[1:]))
            if all(least_price(machine, piece) is not None for piece in told):
                found.append(told)
    return found


class SplitTest(unittest.TestCase):
    def test_against_all_splits(self):
        for machine in MACHINES:
            for text in texts_up_to("ab", 5) + ["c", "abcab"]:
                told = splits_by_force(machine, text)
                least = min([len(value) for value in told], default=None)
                self.assertEqual(least_pieces(machine, text), least, (machine.lines, text))
                self.assertEqual(splits_of(machine, text), len(told), (machine.lines, text))
                self.assertEqual(powers_taken(machine, text), tuple(sorted({len(value) for value in told})))
                if told:
                    self.assertIn(split(machine, text), told)
                    self.assertEqual(len(split(machine, text)), least)
                else:
                    with self.assertRaises(NotTaken) as caught:
                        split(machine, text)
                    self.assertEqual(caught.exception.untaken, text)
                for many in range(len(text) + 1):
                    for cuts in itertools.combinations(range(1, len(text)), max(many - 1, 0)):
                        ends = (0, *cuts, len(text)) if many else (0,)
                        value = tuple(text[begin:end] for begin, end in zip(ends, ends[1:]))
                        self.assertIs(is_split(machine, text, value), value in told, (machine.lines, text, value))

    def test_the_empty_text(self):
        # Machines that take the empty text have no other pieces for it.
        for machine in (COUNT, BLOCK, NOTHING, ABS):
            self.assertEqual([split(machine, ""), least_pieces(machine, ""), splits_of(machine, ""), powers_taken(machine, "")],
                [(), 0, 1, (0,)])
            check_judge(self, lambda value: is_split(machine, "", value), [()], [("",), ("", ""), [], "", None, ((),)])

    def test_values_of_other_kinds(self):
        check_judge(self, lambda value: is_split(ODD, "aaaa", value), [("a",) * 4, ("aaa", "a"), ("a", "aaa"), ("aaa", "a")],
            [("a", "a", "", "a", "a"), ("", "aaa", "a"), ("aaa", "a", ""), ["aaa", "a"], "aaaa", ("aaaa",), ("aa", "aa"), ("aaa",),
            ("aaa", "a", "a"), ("aaa", "b"), ("AAA", "A"), ("aaa", ["a"]), ("aaa", None), ("aaa", ("a",)), (("aaa", "a"),), (),
            {"aaa": "a"}, ("aaa", "a\n"), ("aaa ", "a"), (True, "aaaa")])
        check_judge(self, lambda value: is_split(ODD, "aaaa", value), [], [*NO_STRINGS, *[("aaa", value) for value in NO_STRINGS]])
        # A text that is none can still not be put together.
        check_judge(self, lambda value: is_split(COUNT, "a" * 100000, value), [("a" * 100000,), ("a",) * 100000],
            [("a" * 100001,), ("a",) * 99999])

    def test_long_texts(self):
        text = "ab" * 50000
        told = split(ABS, text)
        self.assertEqual([told, least_pieces(ABS, text)], [("ab",) * 50000, 50000])
        self.assertIs(is_split(ABS, text, told), True)
        self.assertEqual([least_pieces(ODD, "a" * 99999), split(ODD, "a" * 99999)], [1, ("a" * 99999,)])
        self.assertIs(is_split(ODD, "a" * 100000, ("a",) * 100000), True)

    def test_200_and_201_letters(self):
        self.assertEqual([splits_of(COUNT, "a" * 200), powers_taken(COUNT, "b" * 200)], [2 ** 199, tuple(range(1, 201))])
        self.assertEqual(powers_taken(ODD, "a" * 200), tuple(range(2, 201, 2)))
        for call in (splits_of, powers_taken):
            check_refused(self, InvalidText, [lambda value: call(COUNT, value)], [*NO_TEXTS, "a" * 201, "ab" * 1000])
        self.assertEqual(least_pieces(COUNT, "a" * 201), 1)

    def test_machines_with_23_and_24_states(self):
        small, great = ring(23), ring(24)
        self.assertEqual([least_pieces(small, "a" * 22), split(small, "a" * 44), least_pieces(small, "a" * 23)],
            [1, ("a" * 22, "a" * 22), None])
        for call in (lambda: has_finite_power(great), lambda: power(great), lambda: split(great, ""), lambda: split(great, "b"),
                lambda: least_pieces(great, "a")):
            with self.assertRaises(TooMany) as caught:
                call()
            self.assertEqual(caught.exception.limit, 24)
        # Nothing of this where no machine of pieces is needed.
        self.assertEqual([splits_of(great, "a" * 46), powers_taken(great, "a" * 23), is_split(great, "a" * 46, ("a" * 23,) * 2)],
            [1, (1,), True])

    def test_errors_in_their_order(self):
        check_refused(self, InvalidMachine, [has_finite_power, power, lambda value: split(value, None),
            lambda value: is_split(value, None, None), lambda value: least_pieces(value, "A"), lambda value: splits_of(value, 1),
            lambda value: powers_taken(value, "a" * 201)], NO_MACHINES)
        for machine in (COUNT, ring(24)):
            check_refused(self, InvalidText, [lambda value: split(machine, value), lambda value: is_split(machine, value, None),
                lambda value: is_split(machine, value, ("a",)), lambda value: least_pieces(machine, value)], NO_TEXTS)


class PowerTest(unittest.TestCase):
    def test_against_machines_of_pieces(self):
        seen = {True: 0, False: 0}
        for machine in [*MACHINES, DEAL, *some_machines(40)[2:]]:
            finite = has_finite_power(machine)
            seen[finite] += 1
            self.assertIs(finite, is_limited(pieces(machine)))
            self.assertEqual(power(machine), last_price(pieces(machine)))
            numbers = [least_pieces(machine, text) for text in texts_up_to(machine.letters, 5)]
            if finite:
                self.assertLessEqual(max([number for number in numbers if number is not None]), power(machine), machine.lines)
            else:
                self.assertIs(power(machine), None)
        self.assertGreater(min(seen.values()), 5)

    def test_some_powers(self):
        # A power is as great as the longest text that is not put together of fewer pieces.
        letters = Machine(("s",), ("s", "t"), {("s", "a", "t"): 5})
        self.assertEqual([power(letters), has_finite_power(letters)], [None, False])
        self.assertEqual([power(COUNT), power(free(COUNT)), power(NOTHING), power(Machine(("s",), ("s",), {}))], [1, 1, 0, 0])
        self.assertEqual([power(ODD), power(BLOCK), power(ABS)], [2, 1, None])
        # Texts of two or more letters, or of none.
        several = Machine(("s",), ("u",), {("s", "a", "t"): 0, ("t", "a", "u"): 0, ("u", "a", "u"): 0})
        self.assertEqual(power(several), 1)
        # Up to four at once, or an even number.
        up_to_four = Machine(("s",), ("t", "w"), {("s", "a", "t"): 0, ("s", "a", "u"): 0, ("u", "a", "w"): 0, ("w", "a", "u"): 0})
        self.assertEqual(power(up_to_four), 2)

    def test_webs_that_are_too_great(self):
        names = NAMES_24[:5]
        maps = {(one, "a", other): 0 for one, other in zip(names, names[1:] + names[:1])}
        maps.update({(names[0], "b", names[1]): 0, (names[1], "b", names[0]): 0, (names[0], "c", names[1]): 0,
            (names[1], "c", names[1]): 0})
        maps.update({(name, letter, name): 0 for name in names[2:] for letter in "bc"})
        machine = Machine(names[:1], names[:1], maps)
        for call in (has_finite_power, power):
            with self.assertRaises(TooMany) as caught:
                call(machine)
            self.assertEqual(caught.exception.limit, 3000)
        self.assertEqual(least_pieces(machine, "ba"), least_price(pieces(machine), "ba"))

    def test_machines_stay_as_they_are(self):
        before = [told_of(machine) for machine in (ODD, ABS)]
        for machine in (ODD, ABS):
            for call in (has_finite_power, power, lambda same: split(same, "a" * 3 if same is ODD else "ab"),
                    lambda same: powers_taken(same, "aaab")):
                self.assertEqual(call(machine), call(machine))
        with self.assertRaises(NotTaken):
            split(ABS, "a")
        self.assertEqual([told_of(machine) for machine in (ODD, ABS)], before)
        self.assertIs(is_taken(chain(1), "a"), True)
