"""Webs of machines."""

import itertools
import random
import unittest
from unittest import mock

from lastprices.base.machines import Machine
from lastprices.errors import InvalidMachine, InvalidOperation, TooMany
from lastprices.signs import closure, shortest, webs
from lastprices.signs.patterns import MAX_DEPTH, Pattern, is_pattern
from lastprices.signs.products import is_stable_square
from lastprices.signs.squares import Square
from lastprices.signs.webs import Web, is_web_of
from tests.force import some_machine, some_machines
from tests.test_patterns import square_by_force
from tests.test_squares import NO_SQUARES, product_by_force, repeat_by_force
from tests.values import (BLOCK, COUNT, DEAL, NAMES_24, NO_MACHINES, NO_STRINGS, ODD, check_judge, check_refused, shown,
    told_of)


def web_by_force(machine):
    """The ascending tuple of the rows of all squares of a web."""
    found = {Square.of_text(machine, letter).rows for letter in machine.letters}
    while True:
        more = {product_by_force(one, other) for one in found for other in found}
        more |= {repeat_by_force(rows) for rows in found if product_by_force(rows, rows) == rows}
        if more <= found:
            return tuple(sorted(found))
        found |= more


def apart(*parts):
    """A machine that has for each of some parts states of its own, with loops only.

    In a part, `e` is a state with a loop that its letter makes dearer, and `f` one that its letter takes away; with
    `i` there is a letter that does nothing. A letter of one part takes away all states of the others. So the squares
    of a part are all that can come about in its states, one beside the other, without those that need no letter.
    """
    letters = iter("abcdefghijklmnopqrstuvwxyz")
    names = iter(NAMES_24)
    arcs = {}
    for part in parts:
        states = [(kind, next(names), next(letters)) for kind in part.replace("i", "")]
        inner = [letter for _, _, letter in states] + [next(letters) for _ in range(part.count("i"))]
        for kind, name, own in states:
            for letter in inner:
                if letter != own or kind == "e":
                    arcs[name, letter, name] = int(letter == own)
    return Machine(("qa",), ("qa",), arcs)


def maps_of_five():
    """A machine whose web has all maps from five states to themselves, which are 3125."""
    arcs = {(one, "a", other): 0 for one, other in zip("stuvw", "tuvws")}
    arcs.update({("s", "b", "t"): 0, ("t", "b", "s"): 0, ("s", "c", "t"): 0, ("t", "c", "t"): 0})
    arcs.update({(name, letter, name): 0 for name in "uvw" for letter in "bc"})
    return Machine(("s",), ("s",), arcs)


# Squares of its parts: 2 * 2 * 3 ** 6 - 1, 2 * 3 ** 3 - 1 and 2 ** 5, of which one has no ways; it is that of
# letters of different parts, too. So there are just 3000.
JUST_3000 = apart("ffeeeeee", "feee", "fffffi")


def told(web):
    """All that a web tells of itself."""
    return (web.machine.lines, web.squares, web.stable, web.growing, list(web.letters.items()), len(web), list(web),
        str(web), [web.pattern_of(rows) for rows in web])


class WebTest(unittest.TestCase):
    def test_against_force(self):
        for machine in [DEAL, ODD, *some_machines(60)]:
            squares = web_by_force(machine)
            web = Web(machine)
            growing = tuple(rows for rows in squares if Square(rows).between(machine) == "n")
            self.assertEqual(web.squares, squares, machine.lines)
            self.assertEqual(web.stable, tuple(rows for rows in squares if product_by_force(rows, rows) == rows))
            self.assertEqual(web.growing, growing)
            self.assertEqual(web.letters, {letter: Square.of_text(machine, letter).rows for letter in machine.letters})
            self.assertEqual(list(web.letters), list(machine.letters))
            self.assertEqual([web.machine, len(web), list(web)], [machine, len(squares), list(squares)])
            self.assertEqual(str(web), f"web of {len(squares)} squares, {len(growing)} growing")
            self.assertIs(is_web_of(machine, squares), True)

    def test_closed_under_products_and_repeats(self):
        for machine in [DEAL, some_machine(3), some_machine(11), apart("eef", "ei")]:
            web = Web(machine)
            for one, other in itertools.product(web, repeat=2):
                self.assertIn(Square(one) * Square(other), web)
            for rows in web.stable:
                self.assertIn(Square(rows).repeated(), web)

    def test_without_letters(self):
        web = Web(Machine(("s",), ("s",), {}))
        self.assertEqual([web.squares, web.stable, web.growing, web.letters, len(web), list(web)], [(), (), (), {}, 0, []])
        self.assertEqual(str(web), "web of 0 squares, 0 growing")

    def test_patterns(self):
        for machine in [DEAL, ODD, apart("eef", "ei"), *some_machines(60)]:
            web = Web(machine)
            for rows in web:
                text = web.pattern_of(rows)
                self.assertEqual(Pattern(text).square(machine).rows, rows, (machine.lines, text))
        grows = Web(DEAL).pattern_of(Web(DEAL).growing[0])
        self.assertIs(Pattern(grows).is_growing(DEAL), True)

    def test_shortest_patterns(self):
        texts = ["".join(told) for many in range(1, 8) for told in itertools.product("ab()#", repeat=many)]
        texts = [text for text in texts if is_pattern(text)]
        for machine in [COUNT, *[some_machine(seed) for seed in range(12)]]:
            patterns = shortest.Shortest(machine).patterns()
            self.assertEqual(sorted(patterns), list(Web(machine)))
            found = {}
            for text in texts:
                rows = square_by_force(machine, text)
                if rows is not None and set(text) <= set("()#").union(machine.letters):
                    found.setdefault(rows, text)
            for rows, text in found.items():
                self.assertEqual(len(patterns[rows]), len(text), (machine.lines, text))
            for rows, text in patterns.items():
                self.assertEqual(square_by_force(machine, text), rows)

    def test_shortest_patterns_are_not_made_longer_than_they_can_be(self):
        machine = apart("ee")
        texts = sorted(shortest.Shortest(machine).patterns().values())
        self.assertEqual(texts, ["(a)#", "(ab)#", "(b)#", "a", "a(b)#", "ab", "b", "b(a)#"])
        with mock.patch.object(shortest, "MAX_SIGNS", 4):
            texts = sorted(shortest.Shortest(machine).patterns().values())
        self.assertEqual(texts, ["", "", "", "(a)#", "(b)#", "a", "ab", "b"])

    def test_patterns_that_are_too_long_or_too_deep(self):
        for machine in (DEAL, apart("eef", "ei")):
            whole = closure.Closure(machine, 3000)
            texts = {rows: whole.text_of(rows) for rows in whole.origins}
            for signs, depth in ((1, 24), (6, 24), (9, 24), (20000, 0), (20000, 1)):
                again = closure.Closure(machine, 3000)
                with mock.patch.object(closure, "MAX_SIGNS", signs), mock.patch.object(closure, "MAX_DEPTH", depth):
                    for rows, text in texts.items():
                        told = text if len(text) <= signs and Pattern(text).depth <= depth else None
                        self.assertEqual(again.text_of(rows), told, (signs, depth))
                    # Then shortest ones are looked for.
                    web = Web(machine)
                    for rows in web:
                        self.assertEqual(Pattern(web.pattern_of(rows)).square(machine).rows, rows)
        self.assertEqual(MAX_DEPTH, 24)

    def test_what_has_no_pattern(self):
        web = Web(BLOCK)
        check_refused(self, InvalidOperation, [web.pattern_of],
            [*NO_SQUARES, ("0",), ("...",) * 3, ("000",) * 3, Square(web.squares[0]), list(web.squares[0])])

    def test_what_is_in_it(self):
        web = Web(BLOCK)
        for rows in web.squares:
            self.assertIs(rows in web, True)
            self.assertIs(Square(rows) in web, True)
        for value in [*NO_SQUARES, ("0",), Square(("0",)), ("...",) * 3, Square(("...",) * 3), list(web.squares[0]),
                str(Square(web.squares[0])), web.squares]:
            self.assertIs(value in web, False, shown(value))
        everything = Web(Machine(("s",), ("s",), {("s", "a", "s"): 0}))
        for value in [*NO_STRINGS, "0", ["0"], Square((".",)), (".",)]:
            told = value == ("0",) or value == Square(("0",))
            self.assertIs(value in everything, told, shown(value))

    def test_equality(self):
        web = Web(BLOCK)
        for value in [*NO_STRINGS, web.squares, BLOCK, str(web), Web(BLOCK.with_ends(lasts=("q",)))]:
            self.assertIs(web == value, False, shown(value))
            self.assertIs(value == web, False, shown(value))
            self.assertIs(web != value, True, shown(value))
        self.assertIs(web == Web(BLOCK.with_arc("p", "a", "p", 0)), True)
        # Other prices make another machine, even though the squares are the same.
        self.assertIs(web == Web(BLOCK.with_arc("q", "a", "q", 2)), False)

    def test_wrong_machines(self):
        check_refused(self, InvalidMachine, [Web, lambda value: is_web_of(value, ()),
            lambda value: is_web_of(value, None)], NO_MACHINES)

    def test_all_stays_as_it_is(self):
        web = Web(DEAL)
        before = [told(web), told_of(DEAL)]
        web.letters.clear()
        letters = web.letters
        letters["z"] = ("0",)
        for call in (lambda: web.pattern_of(None), lambda: Web(None)):
            with self.assertRaises(ValueError):
                call()
        self.assertEqual([told(web), told_of(DEAL)], before)
        self.assertEqual(told(Web(DEAL)), before[0])


class ManySquaresTest(unittest.TestCase):
    @classmethod
    def setUpClass(cls):
        cls.web = Web(JUST_3000)

    def test_just_3000(self):
        self.assertEqual(webs.MAX_SQUARES, 3000)
        web = self.web
        self.assertEqual([len(web), len(set(web.squares)), len(web.growing)], [3000, 3000, 0])
        for rows in web.squares[::100]:
            self.assertEqual(Pattern(web.pattern_of(rows)).square(JUST_3000).rows, rows)
        self.assertIs(is_web_of(JUST_3000, web.squares), True)
        self.assertIs(is_web_of(JUST_3000, web.squares[:1500] + web.squares[1501:]), False)

    def test_one_more(self):
        more = JUST_3000.with_arc("x", "z", "y", 0)
        with self.assertRaises(TooMany) as caught:
            Web(more)
        self.assertEqual(caught.exception.limit, 3000)
        # No such error where a web is judged.
        with mock.patch.object(webs, "MAX_SQUARES", 3001):
            squares = Web(more).squares
        self.assertEqual(len(squares), 3001)
        self.assertIs(is_web_of(more, squares), True)
        self.assertIs(is_web_of(more, ()), False)

    def test_many_more(self):
        every = {(one, letter, other): (ord(letter) * at + at // 5) & 1 for at, (one, other, letter) in enumerate(
            itertools.product(NAMES_24, NAMES_24, "abcdef")) if at * at % 17 < 3}
        machine = Machine(NAMES_24, NAMES_24, every)
        with self.assertRaises(TooMany):
            Web(machine)
        self.assertIs(is_web_of(machine, (("0" * 24,) * 24,)), False)

    def test_growing_ones_among_many(self):
        machine = apart("eeeeee", "ff")
        web = Web(machine)
        growing = [rows for rows in web if Square(rows).between(machine) == "n"]
        self.assertEqual([len(web), list(web.growing)], [3 ** 6 - 1 + 3, growing])
        self.assertEqual(len(growing), 3 ** 5)


class SlowOnesTest(unittest.TestCase):
    """Webs that took long once."""

    def test_all_maps_of_five_states(self):
        machine = maps_of_five()
        with self.assertRaises(TooMany) as caught:
            Web(machine)
        self.assertEqual(caught.exception.limit, 3000)
        # These are all maps from five states to themselves.
        with mock.patch.object(webs, "MAX_SQUARES", 5 ** 5):
            web = Web(machine)
        self.assertEqual([len(web), len(web.growing)], [5 ** 5, 0])
        maps = {tuple("." * at + "0" + "." * (4 - at) for at in told) for told in itertools.product(range(5), repeat=5)}
        self.assertEqual(set(web.squares), maps)
        stable = {rows for rows in maps if product_by_force(rows, rows) == rows}
        self.assertEqual([set(web.stable), len(stable)], [stable, 196])
        self.assertIs(is_web_of(machine, web.squares), True)
        self.assertIs(is_web_of(machine, web.squares[1:]), False)

    def test_counting_and_blocks(self):
        machine = Machine.from_lines("first c p", "last c r", "arc p a 0 p", "arc p b 0 p", "arc p b 0 q", "arc q a 1 q",
            "arc q b 0 r", "arc r a 0 r", "arc r b 0 r", "arc c a 0 c", "arc c b 1 c")
        web = Web(machine)
        self.assertEqual([web.squares, len(web)], [web_by_force(machine), 65])
        self.assertEqual(str(web), f"web of 65 squares, {len(web.growing)} growing")
        self.assertIs(is_web_of(machine, web.squares), True)

    def test_just_the_stable_squares_are_called_stable(self):
        told = random.Random(12)
        seen = {True: 0, False: 0}
        for size in range(1, 7):
            for signs in ("01n.", "0.", "n.", "01n....", "0000n.", "1n......"):
                for _ in range(60):
                    rows = tuple("".join(told.choice(signs) for _ in range(size)) for _ in range(size))
                    # Of many squares some power is stable.
                    for _ in range(5):
                        stable = product_by_force(rows, rows) == rows
                        seen[stable] += 1
                        self.assertIs(is_stable_square(rows), stable, rows)
                        self.assertIs(Square(rows).is_stable, stable)
                        if stable:
                            self.assertEqual(Square(rows).repeated().rows, repeat_by_force(rows))
                        rows = product_by_force(rows, rows)
        self.assertGreater(min(seen.values()), 1000)

    def test_stable_squares_of_webs(self):
        for machine in [apart("eef", "ei"), apart("eeee"), *some_machines(40)]:
            web = Web(machine)
            self.assertEqual(web.stable, tuple(rows for rows in web if product_by_force(rows, rows) == rows))


class IsWebTest(unittest.TestCase):
    def test_other_tuples(self):
        for machine in (BLOCK, COUNT, DEAL, ODD):
            squares = Web(machine).squares
            other = ("." * len(machine),) * len(machine)
            bad = [squares[:-1], squares[1:], squares[::-1], squares + squares[-1:], list(squares), (squares,), (),
                squares + (("0",),), tuple(Square(rows) for rows in squares), tuple(list(rows) for rows in squares),
                tuple(sorted(squares + (("0" * len(machine),) * len(machine),))), {rows: True for rows in squares},
                squares + (None,), (None,) + squares[1:], squares[0], str(squares), Web(machine)]
            if other not in squares:
                bad.append((other, *squares))
            check_judge(self, lambda value: is_web_of(machine, value), [squares], bad)
            check_judge(self, lambda value: is_web_of(machine, value), [],
                [value for value in NO_STRINGS + NO_SQUARES if value != squares])

    def test_squares_that_are_not_made(self):
        # This is closed under products and repeats, but has a square too many.
        squares = Web(COUNT).squares
        self.assertEqual(squares, (("0",), ("1",), ("n",)))
        self.assertIs(is_web_of(COUNT, ((".",), *squares)), False)
        self.assertIs(is_web_of(COUNT.without_arc("c", "b", "c"), squares), False)
        self.assertIs(is_web_of(COUNT.without_arc("c", "b", "c"), (("0",),)), True)

    def test_machines_without_letters(self):
        machine = Machine(("s",), ("s",), {})
        check_judge(self, lambda value: is_web_of(machine, value), [()], [value for value in NO_STRINGS if value != ()])
