"""Papers and last prices."""

import itertools
import unittest
from unittest import mock

from lastprices.base.machines import Machine
from lastprices.decide import lasts, papers
from lastprices.decide.papers import growing_pattern, is_limited, is_paper, last_price, paper, rows_from, worst_text
from lastprices.errors import InvalidMachine, InvalidNumber, InvalidRow, TooMany
from lastprices.read.combined import choice, free, joined, stepped, turned
from lastprices.read.prices import price_of
from lastprices.rows import spread
from lastprices.rows.tables import Table, first_row, next_row, price_in
from lastprices.signs.patterns import Pattern
from lastprices.signs.webs import Web
from tests.force import least_price, rows_by_force, some_machines, texts_up_to
from tests.test_tables import NO_ROWS, many_rows
from tests.test_webs import JUST_3000, web_by_force
from tests.values import (BLOCK, COUNT, DEAL, MARK, NAMES_24, NO_MACHINES, NO_NUMBERS, NO_STRINGS, check_judge, check_refused,
    shown, told_of)

NOTHING = Machine(("a",), ("b",), {("a", "a", "a"): 1, ("b", "b", "b"): 1})


def chain(*prices):
    """A machine that takes one text, the prices of whose letters these are."""
    names = NAMES_24[:len(prices) + 1]
    arcs = {(one, "a", other): price for one, other, price in zip(names, names[1:], prices)}
    return Machine(names[:1], names[-1:], arcs)


def counting_chain(*prices):
    """A chain for `c`, and beside it two states that count `a` and `b`; with the chain gone, all pairs of counts come."""
    arcs = {("x", letter, "x"): int(letter == "a") for letter in "abc"}
    arcs.update({("y", letter, "y"): int(letter == "b") for letter in "abc"})
    names = NAMES_24[:len(prices) + 1]
    arcs.update({(one, "c", other): price for one, other, price in zip(names, names[1:], prices)})
    return Machine((names[0], "x", "y"), names[-1:], arcs)


def entering(least, last):
    """A machine with few rows for caps below the least price of what is remembered, and very many from that one on.

    It takes one text, for a price that is told.
    """
    arcs = {("qa", "a", "qa"): 0, ("qa", "b", "qa"): 0, ("qa", "a", "qb"): least, ("qa", "b", "qb"): least + 1}
    for one, other in zip(NAMES_24[1:17], NAMES_24[2:17]):
        arcs[one, "a", other] = arcs[one, "b", other] = 0
    arcs["y", "c", "z"] = last
    return Machine(("qa", "y"), ("z",), arcs)


def is_limited_by_force(machine):
    """Whether no square of the web, found by force, grows."""
    return not any(min([rows[machine.states.index(one)][machine.states.index(other)] for one in machine.firsts
        for other in machine.lasts], key="01n.".index) == "n" for rows in web_by_force(machine))


def is_paper_by_force(machine, value):
    """Whether a tuple is a paper of the first form, as it is told."""
    _, cap, rows = value
    if list(rows) != sorted(set(rows)) or first_row(machine, cap) not in rows:
        return False
    if any(price_in(machine, cap, row) == cap + 1 for row in rows):
        return False
    return all(next_row(machine, cap, row, letter) in rows for row in rows for letter in machine.letters)


class LastPriceTest(unittest.TestCase):
    def test_against_force(self):
        seen = {True: 0, False: 0}
        for machine in [DEAL, MARK, NOTHING, *some_machines(150)]:
            limited = is_limited_by_force(machine)
            seen[limited] += 1
            self.assertIs(is_limited(machine), limited, machine.lines)
            prices = [least_price(machine, text) for text in texts_up_to(machine.letters, 5)]
            if not limited:
                self.assertEqual([last_price(machine), worst_text(machine)], [None, None])
                continue
            # With a cap of 60 all prices of these machines show as they are.
            rows = rows_by_force(machine, 60)
            lasts_of = [price_in(machine, 60, row) for row in rows]
            last = max([price for price in lasts_of if price is not None], default=0)
            self.assertLessEqual(last, 60)
            self.assertEqual(last_price(machine), last, machine.lines)
            self.assertLessEqual(max([price for price in prices if price is not None], default=0), last)
            first = [text for text, price in zip(texts_up_to(machine.letters, 5), prices) if price == last]
            if first:
                self.assertEqual(worst_text(machine), first[0], machine.lines)
            elif worst_text(machine) is None:
                self.assertEqual(set(lasts_of), {None})
            else:
                self.assertEqual(least_price(machine, worst_text(machine)), last)
                self.assertGreater(len(worst_text(machine)), 5)
        self.assertGreater(min(seen.values()), 20)

    def test_machines_that_take_no_text(self):
        for machine in (NOTHING, Machine(("s",), ("t",), {}), turned(NOTHING)):
            self.assertEqual([is_limited(machine), last_price(machine), worst_text(machine)], [True, 0, None])
            self.assertEqual(paper(machine)[:2], ("enough", 0))
        self.assertEqual([last_price(Machine(("s",), ("s",), {})), worst_text(Machine(("s",), ("s",), {}))], [0, ""])

    def test_a_last_price_of_200_and_201(self):
        just = chain(*[9] * 22, 2)
        self.assertEqual([is_limited(just), last_price(just), worst_text(just)], [True, 200, "a" * 23])
        self.assertEqual(paper(just), ("enough", 200, Table(just, 200).rows))
        self.assertIs(is_paper(just, paper(just)), True)
        more = chain(*[9] * 22, 3)
        self.assertEqual([is_limited(more), growing_pattern(more)], [True, None])
        for call in (last_price, worst_text, paper):
            with self.assertRaises(TooMany) as caught:
                call(more)
            self.assertEqual(caught.exception.limit, 200)
        # No cap shows it.
        self.assertIs(is_paper(more, ("enough", 200, Table(more, 200).rows)), False)

    def test_all_last_prices_are_found(self):
        for last in range(0, 200, 7):
            prices = [9] * (last // 9) + [last % 9]
            self.assertEqual(last_price(chain(*prices)), last)
        self.assertEqual([last_price(chain(4)), last_price(chain(5)), last_price(chain(9, 9, 2))], [4, 5, 20])

    def test_too_many_rows(self):
        # (139 + 2) ** 2 rows without the chain, and 17 with it.
        fits = counting_chain(*[9] * 15, 4)
        self.assertEqual([last_price(fits), worst_text(fits), len(paper(fits)[2])], [139, "c" * 16, 19881 + 17])
        for machine in (counting_chain(*[9] * 16), counting_chain(*[9] * 21)):
            self.assertIs(is_limited(machine), True)
            for call in (last_price, worst_text, paper):
                with self.assertRaises(TooMany) as caught:
                    call(machine)
                self.assertEqual(caught.exception.limit, 20000)

    def test_too_many_rows_beyond_the_last_price(self):
        for least in range(1, 8):
            for last in range(10):
                machine = entering(least, last)
                self.assertIs(is_limited(machine), True)
                if last < least:
                    self.assertEqual([last_price(machine), worst_text(machine), paper(machine)[1]], [last, "c", last])
                    self.assertIs(is_paper(machine, paper(machine)), True)
                else:
                    with self.assertRaises(TooMany) as caught:
                        last_price(machine)
                    self.assertEqual(caught.exception.limit, 20000)

    def test_too_many_rows_for_the_greatest_cap_only(self):
        arcs = chain(*[9] * 23).arcs
        machine = Machine(NAMES_24[:1], NAMES_24[-1:], {**arcs, **{(one, "b", other): 8 for one, _, other in arcs}})
        sizes = [len(Table(machine, cap)) for cap in (199, 200)]
        self.assertLess(sizes[0], sizes[1])
        for many, limit in ((sizes[0], 20000), (sizes[1], 200)):
            with mock.patch.object(spread, "MAX_TABLE", many):
                with self.assertRaises(TooMany) as caught:
                    last_price(machine)
            self.assertEqual(caught.exception.limit, limit)

    def test_just_as_many_rows_as_there_can_be(self):
        for machine in (MARK, counting_chain(3, 4, 2), free(BLOCK), chain(9, 9, 9)):
            last = last_price(machine)
            many = len(Table(machine, last))
            with mock.patch.object(spread, "MAX_TABLE", many):
                self.assertEqual(last_price(machine), last)
                self.assertEqual(len(paper(machine)[2]), many)
            with mock.patch.object(spread, "MAX_TABLE", many - 1), mock.patch.object(lasts, "MAX_TABLE", many - 1):
                with self.assertRaises(TooMany) as caught:
                    last_price(machine)
                self.assertEqual(caught.exception.limit, many - 1)

    def test_too_many_rows_come_ahead_of_too_great_a_last_price(self):
        machine = counting_chain(*[9] * 21)
        with mock.patch.object(spread, "MAX_TABLE", 10 ** 9):
            self.assertEqual(last_price(machine), 189)
        more = chain(*[9] * 23)
        with mock.patch.object(spread, "MAX_TABLE", 20), mock.patch.object(lasts, "MAX_TABLE", 20):
            with self.assertRaises(TooMany) as caught:
                last_price(more)
        self.assertEqual(caught.exception.limit, 20)

    def test_webs_of_just_3000_squares_and_of_more(self):
        self.assertIs(is_limited(JUST_3000), True)
        more = JUST_3000.with_arc("x", "z", "y", 0)
        for call in (is_limited, last_price, worst_text, growing_pattern, paper):
            with self.assertRaises(TooMany) as caught:
                call(more)
            self.assertEqual(caught.exception.limit, 3000)
        # Nothing of this where a paper is judged.
        self.assertIs(is_paper(more, ("grows", "a")), False)
        self.assertIs(is_paper(more, ("enough", 0, ())), False)

    def test_true_statements(self):
        limited = [machine for machine in some_machines(60) if is_limited(machine)][:12]
        for one, other in zip(limited, limited[1:]):
            self.assertIs(is_limited(choice(one, other)), True)
            self.assertIs(is_limited(joined(one, other)), True)
            self.assertIs(is_limited(turned(one)), True)
        for machine in some_machines(60):
            other = Machine(machine.firsts, machine.lasts, {place: min(price, 1) for place, price in machine.arcs.items()})
            self.assertIs(is_limited(other), is_limited(machine))
            self.assertEqual(last_price(free(machine)), 0)


class GrowingTest(unittest.TestCase):
    def test_patterns(self):
        for machine in [DEAL, BLOCK, COUNT, stepped(COUNT), *some_machines(100)]:
            text = growing_pattern(machine)
            self.assertIs(text is None, is_limited(machine), machine.lines)
            if text is not None:
                pattern = Pattern(text)
                self.assertIs(pattern.is_growing(machine), True)
                prices = [pattern.costs(machine, number).between(machine) for number in (1, 10, 100, 1000)]
                self.assertGreaterEqual(prices[-1], 1000 // len(machine))
                self.assertEqual(paper(machine), ("grows", text))

    def test_patterns_that_would_be_too_long(self):
        with mock.patch.object(papers.growing_pattern.__globals__["whole_closure"].__globals__["Closure"], "text_of",
                lambda closure, rows: None):
            self.assertIs(Pattern(growing_pattern(DEAL)).is_growing(DEAL), True)
            web = Web(DEAL)
            for rows in web:
                self.assertEqual(Pattern(web.pattern_of(rows)).square(DEAL).rows, rows)


class PaperTest(unittest.TestCase):
    def test_papers_that_are_told(self):
        for machine in [DEAL, MARK, NOTHING, *some_machines(80)]:
            told = paper(machine)
            self.assertIs(is_paper(machine, told), True, machine.lines)
            if is_limited(machine):
                last = last_price(machine)
                self.assertEqual(told, ("enough", last, Table(machine, last).rows))
                for cap in range(0, last + 3):
                    value = ("enough", cap, Table(machine, cap).rows)
                    self.assertIs(is_paper(machine, value), cap >= last, (machine.lines, cap))
            else:
                self.assertEqual(told[0], "grows")
                self.assertIs(is_paper(machine, ("enough", 9, Table(machine, 9).rows)), False)

    def test_all_tuples_of_rows(self):
        # All sets of rows of small machines, whether texts reach them or not.
        for machine, cap in ((MARK, 1), (COUNT, 1), (MARK, 0), (NOTHING, 0), (Machine(("c",), ("c",), {("c", "a", "c"): 0}), 2)):
            numbers = range(-1, cap + 2)
            every = list(itertools.product(numbers, repeat=len(machine)))
            for many in range(5):
                for rows in itertools.combinations(every, many):
                    value = ("enough", cap, rows)
                    self.assertIs(is_paper(machine, value), is_paper_by_force(machine, value), (machine.lines, rows))

    def test_rows_of_other_kinds(self):
        good = ((-1, 1), (0, -1))
        more = ((-1, -1), (-1, 0), (-1, 1), (0, -1), (0, 0), (0, 1), (1, 1))
        check_judge(self, lambda value: is_paper(MARK, ("enough", 1, value)), [good, more], [
            good[::-1], (*good, good[1]), (good[0], *good), good[1:], good[:1], (), list(good), [list(row) for row in good],
            (list(good[0]), good[1]), (good,), good[0], None, "- 1", (*good, (2, 2)), (*good, (3, 0)), ((-2, 0), *good),
            (*good, (0, 0, 0)), ((-1,), *good), (*good, (True, 0)), ((-1, True), (0, -1)), ((-1, 1), (False, -1)),
            (*good, None), (*good, (1, -1)), {row: True for row in good}])
        check_judge(self, lambda value: is_paper(MARK, ("enough", 1, value)), [], NO_STRINGS)

    def test_other_values(self):
        good = ((-1, 1), (0, -1))
        check_judge(self, lambda value: is_paper(MARK, value), [("enough", 1, good), ("enough", 2, good), ("enough", 200, good)], [
            ("enough", 0, good), ("enough", 201, good), ("enough", -1, good), ("enough", True, good), ("enough", None, good),
            ("enough", "1", good), ("enough", 10 ** 99, good), ["enough", 1, good], ("enough", 1), ("enough",), ("enough", 1, good, 1),
            ("Enough", 1, good), ("enough ", 1, good), ("grows", 1, good), (True, 1, good), ("grows",), ("grows", "a"),
            ("grows", "(a)#"), ("grows", None), (1, good), good, "enough", "enough 1", {"enough": good}])
        for word in ("grow", "Grows", "enough", "", None, 1, ("grows",)):
            self.assertIs(is_paper(BLOCK, (word, "b(a)#b")), False)
        check_judge(self, lambda value: is_paper(MARK, value), [], [*NO_STRINGS, "", "grows a"])
        # Another cap has other numbers.
        self.assertIs(is_paper(COUNT, ("enough", 1, ((0,), (1,)))), False)
        self.assertIs(is_paper(COUNT, ("enough", 1, ((0,), (1,), (2,)))), False)

    def test_rows_that_lead_to_very_many_others(self):
        # Each letter makes one state dearer, so that nearly all rows behind these are new.
        letters = "abcdefghijklmnopqrstuvwx"
        machine = Machine(NAMES_24, NAMES_24, {(name, letter, name): int(name[1] == letter)
            for name in NAMES_24 for letter in letters})
        starts = [(0,) * 24, *[(0,) * at + (price, other) + (0,) * (22 - at) for at in range(23) for price in range(2, 40, 2)
            for other in range(2, 6, 2)]]
        self.assertGreater(len(starts) * 24, 20000)
        self.assertIs(is_paper(machine, ("enough", 200, tuple(sorted(starts)))), False)
        with self.assertRaises(TooMany):
            rows_from(machine, 200, tuple(starts))

    def test_patterns(self):
        check_judge(self, lambda value: is_paper(DEAL, ("grows", value)), ["(b(a)#b(a)#)#", "(b(a)#b(a)#)#b"], [
            # Without a repeat, not stable, stable without growing, with a letter of no arc, and no patterns.
            "bab", "(b(a)#)#", "b(a)#b", "(a)#", "b", "(b(a)#b(a)#)#c", "c", "", "()#", "(b)", "b#", "(b(a)#b(a)#", ("b(a)#b",)])
        check_judge(self, lambda value: is_paper(BLOCK, ("grows", value)), ["b(a)#b", "ab(a)#ba"], ["b(a)#", "(b)#", *NO_STRINGS])
        self.assertIs(is_paper(BLOCK, ("grows", "b(a)#b", None)), False)
        self.assertIs(is_paper(BLOCK, ["grows", "b(a)#b"]), False)

    def test_wrong_machines(self):
        check_refused(self, InvalidMachine, [is_limited, last_price, worst_text, growing_pattern, paper,
            lambda value: is_paper(value, None), lambda value: is_paper(value, ("grows", "a")),
            lambda value: rows_from(value, None, None), lambda value: rows_from(value, 1, ())], NO_MACHINES)

    def test_all_stays_as_it_is(self):
        before = [told_of(machine) for machine in (MARK, DEAL)]
        for call in (is_limited, last_price, worst_text, growing_pattern, paper):
            self.assertEqual([call(MARK), call(DEAL)], [call(MARK), call(DEAL)])
        self.assertEqual([told_of(machine) for machine in (MARK, DEAL)], before)


class RowsFromTest(unittest.TestCase):
    def test_against_force(self):
        for machine in some_machines(30):
            for cap in (0, 2):
                table = Table(machine, cap)
                self.assertEqual(rows_from(machine, cap, (table.start,)), table.rows)
                every = list(itertools.product(range(-1, cap + 2), repeat=len(machine)))
                for starts in ((), tuple(every[::5]), (every[-1], every[0], every[-1])):
                    found = list(starts)
                    for row in found:
                        for letter in machine.letters:
                            later = next_row(machine, cap, row, letter)
                            if later not in found:
                                found.append(later)
                    self.assertEqual(rows_from(machine, cap, starts), tuple(sorted(set(found))), (machine.lines, starts))

    def test_wrong_numbers(self):
        check_refused(self, InvalidNumber, [lambda value: rows_from(COUNT, value, None),
            lambda value: rows_from(COUNT, value, ((0,),))], NO_NUMBERS)

    def test_wrong_rows(self):
        for value in NO_ROWS:
            for rows in (value, (value,), [(0, 0, 0)], ((0, 0, 0), value), {(0, 0, 0): True}):
                if rows is value and rows in ((), ((0, 0, 0),)):
                    self.assertEqual(rows_from(BLOCK, 3, rows)[:1], rows[:1])
                else:
                    with self.assertRaises(InvalidRow, msg=shown(rows)):
                        rows_from(BLOCK, 3, rows)

    def test_just_20000_rows_and_more(self):
        machine = many_rows(2, 5)
        start = first_row(machine, 23)
        rows = rows_from(machine, 23, (start,))
        self.assertEqual([len(rows), rows == tuple(sorted(rows))], [20000, True])
        self.assertEqual(rows_from(machine, 23, rows), rows)
        for starts in ((start, (-1,) * 7), (*rows, (-1,) * 7)):
            with self.assertRaises(TooMany) as caught:
                rows_from(machine, 23, starts)
            self.assertEqual(caught.exception.limit, 20000)
        lone = Machine(NAMES_24[:3], NAMES_24[:1], {})
        many = tuple(itertools.product(range(-1, 27), repeat=3))
        self.assertEqual(len(rows_from(lone, 100, many[:20000])), 20000)
        with self.assertRaises(TooMany):
            rows_from(lone, 100, many[:20001])

    def test_errors_in_their_order(self):
        machine = many_rows(2, 5)
        with self.assertRaises(InvalidRow):
            rows_from(machine, 24, (first_row(machine, 24), None))
        self.assertEqual(price_of(MARK, "a"), 1)
