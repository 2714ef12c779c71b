"""Dear texts, and texts by their prices."""

import inspect
import itertools
import math
import unittest
from unittest import mock

from lastprices.base.machines import Machine
from lastprices.decide import layers, spents, tallies
from lastprices.decide.dear import (count_priced, dear_text, dearest, each_priced, number_of, priced_at, prices_of)
from lastprices.errors import InvalidMachine, InvalidNumber, InvalidText, NotTaken, TooMany
from lastprices.read.prices import count_taken, price_of
from lastprices.rows import spread
from lastprices.rows.tables import first_row, next_row
from tests.force import drawn_machines, least_price, some_machines, texts_up_to
from tests.test_counts import shifting
from tests.test_tables import many_rows
from tests.values import (BLOCK, COUNT, DEAL, MARK, NAMES_24, NO_MACHINES, NO_NUMBERS, NO_STRINGS, NO_TEXTS, check_refused,
    told_of)

NOTHING = Machine(("a",), ("b",), {("a", "a", "a"): 1, ("b", "b", "b"): 1})
DEAR = Machine(("s",), ("s",), {("s", "a", "s"): 9, ("s", "b", "s"): 8})


def priced_texts(machine, length):
    """A dict from prices to the ascending lists of the texts with so many letters that have them."""
    found = {}
    for text in ("".join(told) for told in itertools.product("ab", repeat=length)):
        price = least_price(machine, text)
        if price is not None:
            found.setdefault(price, []).append(text)
    return found


def layers_by_force(machine, cap, length):
    """The numbers of rows to which texts with 0, 1, .. letters of a machine lead, capped."""
    layer = {first_row(machine, min(cap, 200))}
    many = [1]
    for _ in range(length):
        layer = {next_row(machine, cap, row, letter) for row in layer for letter in machine.letters}
        many.append(len(layer))
    return many


def fresh(machine):
    """The same machine, of which nothing was asked as yet."""
    return Machine(machine.firsts, machine.lasts, machine.arcs)


def told_by_force(machine, length):
    """What all functions tell of the texts with so many letters, by trying all of them."""
    told = priced_texts(machine, length)
    return ({price: len(told[price]) for price in sorted(told)}, told[max(told)][0] if told else None,
        {price: told.get(price, []) for price in (*told, 0, 1, 200)})


def told_of_prices(machine, length, prices):
    """What all functions tell of the texts with so many letters, with just these prices."""
    texts = {price: list(each_priced(machine, length, price)) for price in prices}
    for price in prices:
        found = [priced_at(machine, length, price, number) for number in range(count_priced(machine, length, price))]
        if found != texts[price] or [number_of(machine, text) for text in found] != list(range(len(found))):
            return None
    return prices_of(machine, length), dearest(machine, length), texts


class ForceTest(unittest.TestCase):
    def test_against_all_texts(self):
        for machine in [DEAL, MARK, NOTHING, *some_machines(40)]:
            for length in range(5):
                told = priced_texts(machine, length)
                prices = prices_of(machine, length)
                self.assertEqual(list(prices.items()), [(price, len(told[price])) for price in sorted(told)])
                self.assertEqual(dearest(machine, length), told[max(told)][0] if told else None, machine.lines)
                for price in (*range(0, 12), *told, 200):
                    texts = told.get(price, [])
                    self.assertEqual(list(each_priced(machine, length, price)), texts, (machine.lines, length, price))
                    self.assertEqual(count_priced(machine, length, price), len(texts))
                    for number, text in enumerate(texts):
                        self.assertEqual(priced_at(machine, length, price, number), text)
                        self.assertEqual(number_of(machine, text), number)
                    for number in (len(texts), len(texts) + 1, 10 ** 59):
                        with self.assertRaises(InvalidNumber) as caught:
                            priced_at(machine, length, price, number)
                        self.assertEqual(caught.exception.value, number)

    def test_dear_texts(self):
        for machine in [DEAL, MARK, NOTHING, *some_machines(40)]:
            texts = [(text, least_price(machine, text)) for text in texts_up_to(machine.letters, 6)]
            for price in (0, 1, 2, 3, 5, 9, 20):
                found = [text for text, cost in texts if cost is not None and cost >= price]
                told = dear_text(machine, price)
                if found:
                    self.assertEqual(told, found[0], (machine.lines, price))
                elif told is not None:
                    self.assertGreater(len(told), 6)
                    self.assertGreaterEqual(price_of(machine, told), price)

    def test_dear_texts_of_all_prices(self):
        for price in range(201):
            self.assertEqual(dear_text(COUNT, price), "b" * price)
            self.assertEqual(dear_text(BLOCK, price), "b" + "a" * price + "b")
            self.assertEqual(dear_text(MARK, price), ["", "a"][price] if price < 2 else None)
            self.assertEqual(dear_text(DEAR, price), "a" * -(-price // 9))
        self.assertEqual([dear_text(NOTHING, 0), dear_text(Machine(("s",), ("s",), {}), 0)], [None, ""])

    def test_prices_beyond_200(self):
        self.assertEqual(prices_of(DEAR, 200), {price: count for price, count in
            ((1600 + at, self.chosen(200, at)) for at in range(201))})
        self.assertEqual([dearest(DEAR, 200), count_priced(DEAR, 200, 200)], ["a" * 200, 0])
        self.assertEqual(number_of(DEAR, "a" * 8 + "b" * 16), 0)
        with self.assertRaises(InvalidNumber) as caught:
            number_of(DEAR, "a" * 9 + "b" * 15)
        self.assertEqual(caught.exception.value, 201)

    @staticmethod
    def chosen(many, of):
        """In how many ways some of many things can be chosen."""
        made = 1
        for at in range(of):
            made = made * (many - at) // (at + 1)
        return made

    def test_the_greatest_length(self):
        self.assertEqual(prices_of(COUNT, 200), {at: self.chosen(200, at) for at in range(201)})
        self.assertEqual(sum(prices_of(BLOCK, 120).values()), count_taken(BLOCK, 120))
        self.assertEqual([dearest(BLOCK, 120), dearest(COUNT, 200)], ["b" + "a" * 118 + "b", "b" * 200])
        many = self.chosen(200, 100)
        self.assertEqual(count_priced(COUNT, 200, 100), many)
        self.assertEqual(priced_at(COUNT, 200, 100, 0), "a" * 100 + "b" * 100)
        self.assertEqual(priced_at(COUNT, 200, 100, many - 1), "b" * 100 + "a" * 100)
        text = "ab" * 100
        self.assertEqual(priced_at(COUNT, 200, 100, number_of(COUNT, text)), text)
        self.assertEqual(list(itertools.islice(each_priced(COUNT, 200, 1), 2)), ["a" * 199 + "b", "a" * 198 + "ba"])
        with self.assertRaises(InvalidNumber):
            priced_at(COUNT, 200, 100, many)

    def test_machines_stay_as_they_are(self):
        before = [told_of(machine) for machine in (BLOCK, DEAL)]
        told = prices_of(BLOCK, 4)
        told.clear()
        self.assertEqual([prices_of(BLOCK, 4), prices_of(BLOCK, 4)], [{0: 8, 1: 2, 2: 1}] * 2)
        for _ in range(2):
            self.assertEqual([dearest(DEAL, 5), dear_text(DEAL, 2), count_priced(DEAL, 5, 1)], ["abaab", "baab", 9])
        self.assertEqual([told_of(machine) for machine in (BLOCK, DEAL)], before)


class WaysOfCountingTest(unittest.TestCase):
    """Numbers are found in several ways, of which all tell the same."""

    def check(self, machines, length):
        for machine in machines:
            told = told_by_force(machine, length)
            self.assertEqual(told_of_prices(fresh(machine), length, tuple(told[2])), told, (machine.lines, length))

    def machines(self):
        return [COUNT, BLOCK, DEAL, MARK, DEAR, NOTHING, COUNT.with_arc("x", "z", "x", 0), *some_machines(25),
            *drawn_machines(5, (3, 4))]

    def test_numbers_one_by_one(self):
        with mock.patch.object(spents, "FEW_BITS", 0), mock.patch.object(spents, "SPARE_BITS", 0):
            self.check(self.machines(), 5)

    def test_fields_of_integers(self):
        with mock.patch.object(spents, "FEW_BITS", 0), mock.patch.object(spents, "SPARE_BITS", 10 ** 9):
            self.check(self.machines(), 5)

    def test_short_codes_that_get_longer(self):
        with mock.patch.object(spents, "BITS", 1):
            self.check(self.machines(), 6)
            machine = fresh(BLOCK)
            self.assertEqual([dearest(machine, length) for length in (5, 20, 60)],
                ["b" + "a" * (length - 2) + "b" for length in (5, 20, 60)])

    def test_tallies_that_are_kept(self):
        with mock.patch.object(tallies, "FEW_ROWS", 0), mock.patch.object(tallies, "FEW_EACH", 0):
            self.check(self.machines(), 5)
            # With other lengths and prices the same tally goes on.
            machine = fresh(DEAR)
            for length in (3, 1, 12, 200, 7):
                for price in (8 * length, 8 * length + 1, 9 * length, 0):
                    many = ForceTest.chosen(length, price - 8 * length) if 8 * length <= price <= 9 * length else 0
                    if price <= 200:
                        self.assertEqual(count_priced(machine, length, price), many)

    def test_no_tallies_that_are_kept(self):
        with mock.patch.object(tallies, "FEW_ROWS", 10 ** 9), mock.patch.object(tallies, "MAX_KEPT", 0):
            self.check(self.machines(), 5)

    def test_calls_in_any_order(self):
        # What is kept for one call is right for the next one.
        for machine in self.machines():
            told = {length: told_by_force(machine, length) for length in range(6)}
            same = fresh(machine)
            for length in (5, 0, 3, 1, 4, 2, 5):
                for price in (1, 0, 200, 1):
                    self.assertEqual(list(each_priced(same, length, price)), told[length][2][price])
                    self.assertEqual(count_priced(same, length, price), len(told[length][2][price]))
                self.assertEqual([prices_of(same, length), dearest(same, length)], list(told[length][:2]))

    def test_rows_that_come_again_after_some_letters(self):
        # No letter leads from the first row to itself here.
        machine = Machine(("s",), ("t", "u"), {("s", "a", "t"): 0, ("t", "a", "u"): 2, ("u", "b", "s"): 1, ("t", "b", "s"): 0,
            ("u", "a", "u"): 1, ("s", "b", "u"): 5})
        for length in range(9):
            told = told_by_force(machine, length)
            self.assertEqual(told_of_prices(fresh(machine), length, tuple(told[2])), told)
        self.assertEqual(sum(prices_of(machine, 200).values()), count_taken(machine, 200))
        self.assertEqual(sum([count_priced(machine, 60, price) for price in prices_of(machine, 60) if price <= 200]),
            sum([many for price, many in prices_of(machine, 60).items() if price <= 200]))


class ManyLettersTest(unittest.TestCase):
    """The calls that were slow, one after another, with what they tell."""

    def test_block(self):
        # How many texts there are with 40 letters, and with at least so many `a` between each two neighbouring `b`.
        apart = [sum(math.comb(max(40 - (many - 1) * at, 0), many) for many in range(2, 41)) for at in range(40)]
        self.assertEqual(prices_of(fresh(BLOCK), 40), {at: apart[at] - apart[at + 1] for at in range(39)})
        self.assertEqual(dearest(fresh(BLOCK), 40), "b" + "a" * 38 + "b")

    def test_count(self):
        chosen = ForceTest.chosen
        self.assertEqual(number_of(fresh(COUNT), "b" * 200), 0)
        self.assertEqual(count_priced(fresh(COUNT), 60, 30), chosen(60, 30))
        text = priced_at(fresh(COUNT), 60, 30, 12345678)
        self.assertEqual((text.count("b"), len(text)), (30, 60))
        self.assertEqual(number_of(fresh(COUNT), text), 12345678)
        # Ahead of it stand those that have an `a` where it has the first, second, .. `b`.
        ahead = sum(chosen(59 - at, 30 - at // 2) for at in range(1, 60, 2))
        self.assertEqual(number_of(fresh(COUNT), "ab" * 30), ahead)
        self.assertEqual(next(each_priced(fresh(COUNT), 60, 30)), "a" * 30 + "b" * 30)
        self.assertEqual(prices_of(fresh(COUNT), 200), {at: chosen(200, at) for at in range(201)})
        self.assertEqual(dearest(fresh(COUNT), 200), "b" * 200)
        self.assertEqual(count_priced(fresh(COUNT), 200, 150), chosen(200, 150))

    def test_fifty_calls_of_one_machine(self):
        machine = fresh(COUNT)
        for at in range(50):
            length = (at * 37 + 11) % 61
            price = (at * 53 + 7) % (length + 1)
            many = ForceTest.chosen(length, price)
            self.assertEqual(count_priced(machine, length, price), many)
            self.assertEqual(next(each_priced(machine, length, price)), "a" * (length - price) + "b" * price)
            text = priced_at(machine, length, price, many // 3)
            self.assertEqual([len(text), text.count("b"), number_of(machine, text)], [length, price, many // 3])


class GeneratorTest(unittest.TestCase):
    def test_results_come_one_by_one(self):
        told = each_priced(COUNT, 200, 100)
        self.assertTrue(inspect.isgenerator(told))
        self.assertEqual([next(told), next(told)], ["a" * 100 + "b" * 100, "a" * 99 + "ba" + "b" * 99])

    def test_errors_come_with_the_first_result(self):
        for told, error in ((each_priced(None, 0, 0), InvalidMachine), (each_priced(COUNT, 201, None), InvalidNumber),
                (each_priced(COUNT, 0, 201), InvalidNumber), (each_priced(many_rows(2, 6), 40, 200), TooMany)):
            with self.assertRaises(error):
                next(told)


class WrongValuesTest(unittest.TestCase):
    def test_wrong_machines(self):
        check_refused(self, InvalidMachine, [lambda value: dear_text(value, None), lambda value: prices_of(value, -1),
            lambda value: count_priced(value, None, None), lambda value: list(each_priced(value, 1, 1)),
            lambda value: priced_at(value, 1, 1, None), lambda value: number_of(value, None),
            lambda value: dearest(value, None), lambda value: dearest(value, 1)], NO_MACHINES)

    def test_wrong_lengths(self):
        check_refused(self, InvalidNumber, [lambda value: prices_of(COUNT, value), lambda value: dearest(COUNT, value),
            lambda value: count_priced(COUNT, value, None), lambda value: list(each_priced(COUNT, value, 0)),
            lambda value: priced_at(COUNT, value, -1, -1)], NO_NUMBERS)

    def test_wrong_prices(self):
        check_refused(self, InvalidNumber, [lambda value: dear_text(COUNT, value),
            lambda value: count_priced(COUNT, 200, value), lambda value: list(each_priced(COUNT, 0, value)),
            lambda value: priced_at(COUNT, 4, value, None)], NO_NUMBERS)

    def test_wrong_numbers(self):
        values = [value for value in NO_STRINGS if value not in (0, 1) or isinstance(value, bool)] + [4, "0", "1", ""]
        check_refused(self, InvalidNumber, [lambda value: priced_at(COUNT, 4, 1, value)],
            [value for value in values if value != 0 or isinstance(value, bool)])
        self.assertEqual([priced_at(COUNT, 4, 1, number) for number in range(4)], ["aaab", "aaba", "abaa", "baaa"])
        # What is no number at all comes ahead of too many rows.
        for value in (-1, None, True, 10 ** 60):
            with self.assertRaises(InvalidNumber):
                priced_at(many_rows(2, 6), 200, 200, value)
        with self.assertRaises(TooMany):
            priced_at(many_rows(2, 6), 200, 200, 10 ** 59)

    def test_texts_without_a_number(self):
        check_refused(self, InvalidText, [lambda value: number_of(COUNT, value)], NO_TEXTS + ["a" * 201, "b" * 1000])
        self.assertEqual([number_of(COUNT, "a" * 200), number_of(COUNT, "")], [0, 0])
        for text in ("a", "ab", "c", "bcb", "a" * 200):
            with self.assertRaises(NotTaken) as caught:
                number_of(BLOCK, text)
            self.assertEqual(caught.exception.untaken, text)
        for text in ("", "a"):
            with self.assertRaises(NotTaken):
                number_of(NOTHING, text)


class TooManyTest(unittest.TestCase):
    def test_more_than_20000_rows(self):
        machine = many_rows(3, 6)
        calls = [lambda: prices_of(machine, 200), lambda: dearest(machine, 200), lambda: count_priced(machine, 200, 200),
            lambda: next(each_priced(machine, 200, 200)), lambda: priced_at(machine, 200, 200, 0),
            lambda: number_of(machine, "abcdefghi" * 5 + "abc" * 40)]
        for call in calls:
            with self.assertRaises(TooMany) as caught:
                call()
            self.assertEqual(caught.exception.limit, 20000)

    def test_rows_of_one_length_count(self):
        # 16384 rows are reached with 14 letters, and all of them again with more.
        machine = shifting(15).with_ends(lasts=("qa",))
        self.assertEqual([prices_of(machine, 14), count_priced(machine, 20, 0)], [{0: 2 ** 14}, 2 ** 20])
        more = shifting(16).with_ends(lasts=("qa",))
        self.assertEqual([prices_of(more, 14), dearest(more, 14)], [{0: 2 ** 14}, "a" * 14])
        for call in (lambda: prices_of(more, 15), lambda: dearest(more, 15), lambda: count_priced(more, 15, 0),
                lambda: next(each_priced(more, 15, 0)), lambda: number_of(more, "a" * 15)):
            with self.assertRaises(TooMany):
                call()

    def test_the_limit_itself(self):
        for machine in [DEAL, *some_machines(15)]:
            for cap in (0, 2):
                many = max(layers_by_force(machine, cap, 6))
                calls = [lambda: count_priced(fresh(machine), 6, cap), lambda: list(each_priced(fresh(machine), 6, cap))]
                with mock.patch.object(layers, "MAX_TABLE", many):
                    for call in calls:
                        call()
                with mock.patch.object(layers, "MAX_TABLE", many - 1):
                    for call in calls if many > 1 else []:
                        with self.assertRaises(TooMany):
                            call()
            # With six letters no price is beyond 200.
            many = max(layers_by_force(machine, 200, 6))
            with mock.patch.object(layers, "MAX_TABLE", many):
                self.assertEqual(dearest(fresh(machine), 6) is None, prices_of(fresh(machine), 6) == {})
            with mock.patch.object(layers, "MAX_TABLE", many - 1):
                for call in (prices_of, dearest) if many > 1 else ():
                    with self.assertRaises(TooMany):
                        call(fresh(machine), 6)

    def test_the_row_without_ways_counts_once(self):
        # One row for each price, and the one to which `z` leads after whatever prices.
        machine = COUNT.with_arc("x", "z", "x", 0)
        with mock.patch.object(layers, "MAX_TABLE", 202):
            self.assertEqual([len(prices_of(fresh(machine), 200)), dearest(fresh(machine), 200)], [201, "b" * 200])
        with mock.patch.object(layers, "MAX_TABLE", 201):
            for call in (prices_of, dearest):
                told = fresh(machine)
                self.assertEqual(len(call(told, 199)), 200 if call is prices_of else 199)
                # What was found before does not change this.
                for _ in range(2):
                    with self.assertRaises(TooMany):
                        call(told, 200)
                self.assertEqual(len(call(told, 199)), 200 if call is prices_of else 199)

    def test_only_new_rows_count_for_dear_texts(self):
        # With n letters of these machines there are as many rows as n + 1 letters have places, all of them new.
        counts = Machine(NAMES_24[:2] + ("z",), ("z",), {**{(name, letter, name): int(at == "ab".index(letter))
            for at, name in enumerate(NAMES_24[:2]) for letter in "ab"}, ("z", "a", "z"): 0, ("z", "b", "z"): 0})
        with mock.patch.object(spread, "MAX_TABLE", 100):
            self.assertEqual(dear_text(counts, 98), None)
            with self.assertRaises(TooMany) as caught:
                dear_text(counts, 99)
        self.assertEqual(caught.exception.limit, 100)
        # Where a text is found first, longer ones do not count.
        with mock.patch.object(spread, "MAX_TABLE", 1):
            self.assertEqual([dear_text(counts, 0), dear_text(BLOCK.with_ends(lasts=("p",)), 0)], ["", ""])
