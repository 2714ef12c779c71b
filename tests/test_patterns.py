"""Patterns of texts."""

import random
import re
import unittest

from lastprices.base.machines import Machine
from lastprices.errors import InvalidMachine, InvalidNumber, InvalidPattern, TooMany, Unstable
from lastprices.signs import patterns
from lastprices.signs.costs import Costs
from lastprices.signs.patterns import Pattern, is_pattern
from lastprices.signs.squares import Square
from tests.force import drawn_machines, some_machine, some_machines
from tests.test_costs import GREAT, power_by_force
from tests.test_costs import product_by_force as costs_product_by_force
from tests.test_squares import product_by_force, repeat_by_force
from tests.values import (BLOCK, COUNT, NAMES_24, NO_LETTERS, NO_MACHINES, NO_STRINGS, check_judge, check_refused, shown,
    told_of)

DEAL = BLOCK | COUNT
NESTED = "(b(a)#b(a)#)#"

GOOD = ["a", "z", "abc", "(a)#", "b(a)#b", "(ab(c)#)#", NESTED, "((a)#)#", "(((z)#)#)#", "(a)#(a)#", "a(b)#c(d)#e", "a" * 20000,
    "(a)#" * 5000, "(" * 24 + "a" + ")#" * 24, "b(" * 24 + "a" + ")#" * 24, "(" + "a" * 19997 + ")#"]

BAD = NO_STRINGS + [
    "", "()#", "a()#", "(()#)#", "(", ")", "#", "()", "(a)", "a)", "(a", ")#", "a)#", "a#", "(a#)", "(a)##", "(a))#", "((a)#",
    "(a)#)#", ")a(#", ")#(a", "(a)#(", "(a)#)", "(a) #", "(a)# ", " (a)#", "A", "(A)#", "a b", "a1", "1", "(1)#", "a\n", "\n", "a*",
    "(a)*", "[a]#", "{a}#", "(a)#b#", "(a)b#", "(#a)", "(#)", "(a)#(b)", "(a(b))#", "((a)b)#", "a" * 20001, "(a)#" * 5000 + "a",
    "(" + "a" * 19998 + ")#", "(" * 25 + "a" + ")#" * 25, "(" * 1000 + "a" + ")#" * 1000, "(" * 4000, ")" * 4000, "#" * 4000,
    "a" * 100000, "a" * 100001, "e\u0301", "\u00e9"]

NO_POSITIVES = [value for value in NO_STRINGS if value not in (1, 9, 10, 10 ** 59) or isinstance(value, bool)] + [
    0, -1, 10 ** 60, "1", "a", ""]


def text_by_force(text, n):
    """The text of a pattern at n, made by repeating innermost parts until there is none."""
    while "(" in text:
        text = re.sub(r"\(([a-z]+)\)#", lambda found: found[1] * n, text)
    return text


def items_of(text):
    """The items of a pattern: letters, and the texts of repeated parts in lists."""
    items = []
    while text:
        if text[0] != "(":
            items.append(text[0])
            text = text[1:]
            continue
        depth, at = 1, 0
        while depth:
            at += 1
            depth += (text[at] == "(") - (text[at] == ")")
        items.append([text[1:at]])
        text = text[at + 2:]
    return items


def square_by_force(machine, text):
    """The rows of the square of a pattern, None if it is not stable."""
    rows = None
    for item in items_of(text):
        if isinstance(item, list):
            inner = square_by_force(machine, item[0])
            if inner is None or product_by_force(inner, inner) != inner:
                return None
            factor = repeat_by_force(inner)
        else:
            factor = Square.of_text(machine, item).rows
        rows = factor if rows is None else product_by_force(rows, factor)
    return rows


def costs_by_force(machine, text, n):
    """The rows of the costs of a pattern at n."""
    rows = None
    for item in items_of(text):
        if isinstance(item, list):
            factor = power_by_force(costs_by_force(machine, item[0], n), n)
        else:
            factor = Costs.of_text(machine, item).rows
        rows = factor if rows is None else costs_product_by_force(rows, factor)
    return rows


def weight_by_force(text, depth=0):
    """The weight of a pattern."""
    return sum(weight_by_force(item[0], depth + 1) if isinstance(item, list) else 2 ** depth for item in items_of(text))


def depth_by_force(text):
    """The depth of a pattern."""
    return max([1 + depth_by_force(item[0]) for item in items_of(text) if isinstance(item, list)], default=0)


def some_pattern(told, depth=3):
    """The text of a small pattern."""
    text = ""
    for _ in range(told.randrange(1, 4)):
        if depth and told.randrange(3) == 0:
            text += f"({some_pattern(told, depth - 1)})#"
        else:
            text += told.choice("ab")
    return text


def some_patterns(many):
    """The texts of so many small patterns, the same ones at all times."""
    told = random.Random(3)
    return [NESTED, "b(a)#b", *[some_pattern(told) for _ in range(many)]]


def told(pattern):
    """All that a pattern tells of itself."""
    return pattern.text, pattern.letters, pattern.depth, pattern.parts, pattern.weight, len(pattern), str(pattern)


class PatternTest(unittest.TestCase):
    def test_which_ones_there_are(self):
        check_judge(self, is_pattern, GOOD, BAD)
        for text in GOOD:
            self.assertEqual(Pattern(text).text, text)
        check_refused(self, InvalidPattern, [Pattern], BAD)

    def test_constants(self):
        self.assertEqual((patterns.MAX_SIGNS, patterns.MAX_DEPTH), (20000, 24))

    def test_what_it_tells(self):
        self.assertEqual(told(Pattern("b(a)#b")), ("b(a)#b", ("a", "b"), 1, ("a",), 4, 3, "b(a)#b"))
        self.assertEqual(told(Pattern("z")), ("z", ("z",), 0, (), 1, 1, "z"))
        self.assertEqual(told(Pattern("(ab(c)#)#(d(e)#)#f")), ("(ab(c)#)#(d(e)#)#f", ("a", "b", "c", "d", "e", "f"), 2,
            ("c", "ab(c)#", "e", "d(e)#"), 15, 6, "(ab(c)#)#(d(e)#)#f"))

    def test_against_force(self):
        for text in some_patterns(300):
            pattern = Pattern(text)
            plain = re.sub("[^a-z]", "", text)
            self.assertEqual(pattern.letters, tuple(sorted(set(plain))))
            self.assertEqual(len(pattern), len(plain))
            self.assertEqual(pattern.depth, depth_by_force(text), text)
            self.assertEqual(pattern.weight, weight_by_force(text), text)

    def test_parts_in_the_order_of_their_signs(self):
        self.assertEqual(Pattern("(a(b)#(c(d)#)#)#(e)#").parts, ("b", "d", "c(d)#", "a(b)#(c(d)#)#", "e"))
        self.assertEqual(Pattern("(a)#(a)#").parts, ("a", "a"))
        self.assertEqual(len(Pattern("(a)#" * 5000).parts), 5000)
        self.assertEqual(Pattern("(" * 24 + "a" + ")#" * 24).parts, tuple("(" * at + "a" + ")#" * at for at in range(24)))

    def test_greatest_ones(self):
        deep = Pattern("b(" * 24 + "a" + ")#" * 24)
        self.assertEqual([deep.depth, len(deep), deep.weight], [24, 25, 2 ** 25 - 1])
        self.assertEqual([len(Pattern("a" * 20000)), Pattern("a" * 20000).weight], [20000, 20000])

    def test_equality(self):
        one = Pattern("b(a)#b")
        for value in [*NO_STRINGS, "b(a)#b", "", Pattern("b(a)#bb"), Pattern("b(a)#(b)#"), ("b(a)#b",)]:
            told = isinstance(value, Pattern) and value.text == "b(a)#b"
            self.assertIs(one == value, told, shown(value))
            self.assertIs(value == one, told, shown(value))
            self.assertIs(one != value, not told, shown(value))
        self.assertIs(one == Pattern("b(a)#b"), True)

    def test_letters_in_it(self):
        pattern = Pattern("b(ac)#b")
        self.assertEqual([letter in pattern for letter in "abcd"], [True, True, True, False])
        for value in NO_LETTERS + ["(", ")", "#", "ac", "b(ac)#b"]:
            self.assertIs(value in pattern, False, shown(value))

    def test_not_iterated_over(self):
        with self.assertRaises(TypeError):
            iter(Pattern("ab"))


class TextTest(unittest.TestCase):
    def test_against_force(self):
        for text in some_patterns(200):
            for n in range(1, 5):
                at_n = text_by_force(text, n)
                self.assertEqual(Pattern(text)(n), at_n, text)
                self.assertEqual(Pattern(text).length(n), len(at_n), text)

    def test_of_the_document(self):
        self.assertEqual(Pattern("(ab(c)#)#")(2), "abccabcc")

    def test_at_most_100000_letters(self):
        self.assertEqual(Pattern("(a)#")(100000), "a" * 100000)
        self.assertEqual(Pattern("a(b)#")(99999), "a" + "b" * 99999)
        self.assertEqual(Pattern("((a)#)#")(316), "a" * 316 ** 2)
        self.assertEqual(Pattern("ab")(10 ** 60 - 1), "ab")
        for text, n in (("(a)#", 100001), ("a(b)#", 100000), ("((a)#)#", 317), ("(a)#", 10 ** 60 - 1),
                ("(" * 24 + "a" + ")#" * 24, 2), ("(" * 24 + "a" + ")#" * 24, 10 ** 60 - 1)):
            with self.assertRaises(TooMany) as caught:
                Pattern(text)(n)
            self.assertEqual(caught.exception.limit, 100000)

    def test_lengths_without_bounds(self):
        n = 10 ** 60 - 1
        self.assertEqual(Pattern("b(a)#b").length(n), n + 2)
        self.assertEqual(Pattern("(" * 24 + "a" + ")#" * 24).length(n), n ** 24)
        self.assertEqual(Pattern("(a)#" * 5000).length(n), 5000 * n)

    def test_wrong_numbers(self):
        pattern = Pattern("b(a)#b")
        check_refused(self, InvalidNumber, [pattern, pattern.length, Pattern("a"), Pattern("(" * 24 + "a" + ")#" * 24)],
            NO_POSITIVES)

    def test_a_long_text(self):
        text = "(a)#" + "b" * 10000 + "(c)#" * 1000
        self.assertEqual(Pattern(text)(80), "a" * 80 + "b" * 10000 + "c" * 80000)


class SquareTest(unittest.TestCase):
    def test_against_force(self):
        stable = growing = 0
        for text in some_patterns(60):
            pattern = Pattern(text)
            for machine in [DEAL, *some_machines(10)]:
                rows = square_by_force(machine, text)
                if rows is None:
                    with self.assertRaises(Unstable):
                        pattern.square(machine)
                    self.assertIs(pattern.is_growing(machine), False)
                    continue
                stable += 1
                self.assertEqual(pattern.square(machine).__class__, Square)
                self.assertEqual(pattern.square(machine).rows, rows, (text, machine.lines))
                told = Square(rows).between(machine) == "n"
                growing += told
                self.assertIs(pattern.is_growing(machine), told, (text, machine.lines))
        self.assertGreater(min(stable, growing), 30)

    def test_the_first_part_that_is_not_stable(self):
        for text in some_patterns(100):
            pattern = Pattern(text)
            for machine in some_machines(10):
                parts = [part for part in pattern.parts
                    if square_by_force(machine, part) is None or square_by_force(machine, f"({part})#") is None]
                if parts:
                    with self.assertRaises(Unstable) as caught:
                        pattern.square(machine)
                    self.assertEqual(caught.exception.part, parts[0], (text, machine.lines))
        with self.assertRaises(Unstable) as caught:
            Pattern("(a)#(b)#(b(a)#)#(ab)#(bb)#").square(BLOCK)
        self.assertEqual(caught.exception.part, "b")

    def test_letters_that_no_arc_has(self):
        self.assertEqual(str(Pattern("a(z)#b").square(BLOCK)), ".../.../...")
        self.assertIs(Pattern("a(z)#b").is_growing(BLOCK), False)

    def test_wrong_machines(self):
        for text in ("a", "(b)#", "(b(a)#)#"):
            check_refused(self, InvalidMachine, [Pattern(text).square, Pattern(text).is_growing], NO_MACHINES)

    def test_20000_signs_and_24_states(self):
        ring = {(NAMES_24[at], "a", NAMES_24[at]): at & 1 for at in range(24)}
        machine = Machine(NAMES_24, NAMES_24, {**ring, ("qb", "b", "qa"): 0})
        square = Pattern("(a)#" * 5000).square(machine)
        self.assertEqual([square[0, 0], square[1, 1], square[0, 1]], ["0", "n", "."])
        self.assertEqual(Pattern("a" * 9998 + "b" + "a" * 10001).square(machine)[1, 0], "1")
        self.assertIs(Pattern("(((a)#)#)#" * 2000).is_growing(machine.with_ends(firsts=("qb",))), True)


class CostsTest(unittest.TestCase):
    def test_against_texts(self):
        for text in some_patterns(40):
            for n in (1, 2, 3, 5):
                at_n = text_by_force(text, n)
                if len(at_n) <= 300:
                    for machine in some_machines(6):
                        costs = Pattern(text).costs(machine, n)
                        self.assertEqual(costs.__class__, Costs)
                        self.assertEqual(costs.rows, Costs.of_text(machine, at_n).rows, (text, n))

    def test_what_the_square_of_a_stable_pattern_says(self):
        told = 0
        for text in some_patterns(60):
            pattern = Pattern(text)
            for machine in [DEAL, *[some_machine(seed) for seed in range(15)]]:
                rows = square_by_force(machine, text)
                if rows is None:
                    continue
                told += 1
                for n in (1, 2, 3, 7, 10 ** 20):
                    costs = pattern.costs(machine, n)
                    for one in range(len(machine)):
                        for other in range(len(machine)):
                            price, sign = costs[one, other], rows[one][other]
                            self.assertEqual(price == -1, sign == ".")
                            self.assertEqual(price == 0, sign == "0")
                            if sign == "1":
                                self.assertLessEqual(price, 9 * pattern.weight)
                            if sign == "n":
                                self.assertGreaterEqual(price, n // len(machine))
        self.assertGreater(told, 100)

    def test_numbers_of_sixty_digits(self):
        n = 10 ** 60 - 1
        self.assertEqual(Pattern("b(a)#b").costs(BLOCK, n).rows, ((0, 0, n), (-1, -1, 0), (-1, -1, 0)))
        deep = Pattern("(" * 24 + "b" + ")#" * 24).costs(COUNT, n)
        self.assertEqual(deep.rows, ((n ** 24,),))
        self.assertEqual((deep * deep).between(COUNT), 2 * n ** 24)
        self.assertEqual(Pattern("(b)#" * 5000).costs(COUNT, n).rows, ((5000 * n,),))
        every = {(one, "a", other): 1 for one in NAMES_24 for other in NAMES_24}
        machine = Machine(NAMES_24, NAMES_24, every)
        self.assertEqual(Pattern("(a)#a(aa)#").costs(machine, n).between(machine), 3 * n + 1)
        self.assertEqual(Pattern("a" * 20000).costs(machine, n).between(machine), 20000)

    def test_great_numbers(self):
        for text in (NESTED, "(a)#", "(ab)#b", "((a)#(b)#ab)#", *some_patterns(4)):
            for machine in [DEAL, *drawn_machines(4, (1, 2, 3, 4, 5))]:
                for n in (1, 2, 70, *GREAT[:4]):
                    self.assertEqual(Pattern(text).costs(machine, n).rows, costs_by_force(machine, text, n), (text, n))

    def test_great_numbers_that_are_sums(self):
        for machine in [DEAL, *drawn_machines(6, (1, 2, 3, 4, 5))]:
            for text in ("(a)#", "(ab)#", "(bba)#"):
                costs = [Pattern(text).costs(machine, n) for n in (1, 10 ** 40, 10 ** 40 + 1, 2 ** 199 - 1, 2 ** 199)]
                self.assertEqual([costs[0] * costs[1], costs[3] * costs[0]], [costs[2], costs[4]])

    def test_stable_or_not(self):
        with self.assertRaises(Unstable):
            Pattern("(b)#").square(BLOCK)
        self.assertEqual(Pattern("(b)#").costs(BLOCK, 2).rows, Costs.of_text(BLOCK, "bb").rows)

    def test_wrong_arguments(self):
        pattern = Pattern("b(a)#b")
        check_refused(self, InvalidMachine, [lambda value: pattern.costs(value, 1),
            lambda value: pattern.costs(value, 0)], NO_MACHINES)
        check_refused(self, InvalidNumber, [lambda value: pattern.costs(BLOCK, value)], NO_POSITIVES)


class PutTogetherTest(unittest.TestCase):
    def test_sums_and_repeats(self):
        one, other = Pattern("b(a)#"), Pattern("(c)#")
        self.assertEqual([str(one + other), str(other + one), str(one.repeated())], ["b(a)#(c)#", "(c)#b(a)#", "(b(a)#)#"])
        self.assertEqual([(one + other).__class__, one.repeated().__class__], [Pattern, Pattern])
        self.assertEqual((one + one).repeated().parts, ("a", "a", "b(a)#b(a)#"))

    def test_too_long_or_too_deep(self):
        self.assertEqual(len(Pattern("a" * 19999) + Pattern("b")), 20000)
        with self.assertRaises(InvalidPattern):
            Pattern("a" * 19999) + Pattern("bc")
        self.assertEqual(len(str(Pattern("a" * 19997).repeated())), 20000)
        with self.assertRaises(InvalidPattern):
            Pattern("a" * 19998).repeated()
        deep = Pattern("(" * 23 + "a" + ")#" * 23)
        self.assertEqual([deep.repeated().depth, (deep + deep).depth], [24, 23])
        with self.assertRaises(InvalidPattern):
            deep.repeated().repeated()

    def test_operands_that_are_no_patterns(self):
        pattern = Pattern("a")
        for value in [*NO_STRINGS, "a", "", "(a)#"]:
            if not isinstance(value, Pattern):
                with self.assertRaises(TypeError, msg=shown(value)):
                    pattern + value
                with self.assertRaises(TypeError, msg=shown(value)):
                    value + pattern

    def test_all_stays_as_it_is(self):
        pattern = Pattern(NESTED)
        before = [told(pattern), told_of(BLOCK)]
        for _ in range(2):
            self.assertEqual([pattern(1), pattern.length(2), (pattern + pattern).text], ["baba", 12, NESTED + NESTED])
            self.assertEqual(pattern.costs(BLOCK, 2), Costs.of_text(BLOCK, "baabaabaabaa"))
            self.assertIs(pattern.is_growing(DEAL), True)
            for call in (lambda: pattern(0), lambda: pattern + "a", lambda: pattern.square(None),
                    lambda: pattern.costs(BLOCK, 0), lambda: pattern(10 ** 20)):
                with self.assertRaises((IndexError, TypeError, ValueError, OverflowError)):
                    call()
        self.assertEqual([told(pattern), told_of(BLOCK)], before)
