"""What judges the parts of machines says True or False of every value."""

import unittest

from lastprices.base.machines import is_arcs, is_naming, is_price
from lastprices.base.parts import is_ends, is_place
from tests.values import NO_NAMES, NO_PRICES, NO_STRINGS, check_judge


class PartsTest(unittest.TestCase):
    def test_prices(self):
        check_judge(self, is_price, range(10), NO_PRICES)

    def test_ends(self):
        bad = [value for value in NO_STRINGS if value != ("a",)]
        check_judge(self, is_ends, [("a",), ("a", "b")], [*bad, "a", ("b", "a"), ("a", "a"), ("A",), ("a", None)])

    def test_places(self):
        bad = [value for value in NO_STRINGS if value != ("p", "a", "p")]
        check_judge(self, is_place, [("p", "a", "p"), ("abcdefgh", "z", "q")], [*bad, "pap", ("p", "ab", "p"), ("p", "a")])

    def test_arcs(self):
        good = [{}, {("p", "a", "p"): 0}, {("p", "a", "p"): 9, ("p", "a", "q"): 1}]
        bad = [value for value in NO_STRINGS if value not in good]
        check_judge(self, is_arcs, good, [*bad, {("p", "a", "p"): 10}, {("p", "a"): 0}, {("p", "a", "p"): True}])

    def test_namings(self):
        def is_for_a_and_b(value):
            return is_naming(("a", "b"), value)

        bad = [{"a": name, "b": "z"} for name in NO_NAMES]
        bad += [{"a": "x"}, {"a": "x", "b": "x"}, {"a": "x", "c": "y"}, {"a": "x", "b": "y", "c": "z"}]
        check_judge(self, is_for_a_and_b, [{"a": "x", "b": "y"}, {"b": "a", "a": "b"}], [*NO_STRINGS, *bad])
