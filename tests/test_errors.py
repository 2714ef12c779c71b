"""From which classes the errors are derived, and what they keep."""

import unittest

from lastprices import errors
from tests.values import NO_STRINGS, shown

WITH_MESSAGE = ("InvalidMachine", "InvalidText", "InvalidPattern", "InvalidSquare", "InvalidCosts", "InvalidRow",
    "InvalidPaper", "InvalidOperation")

KEEPING = {
    "ParseError": ("number", errors.PriceError),
    "UnknownName": ("word", KeyError),
    "NotTaken": ("untaken", LookupError),
    "InvalidNumber": ("value", IndexError),
    "NothingToUndo": ("many", RuntimeError),
    "TooMany": ("limit", OverflowError),
    "Unstable": ("part", ArithmeticError),
    "Refused": ("pledge", ArithmeticError),
}


class ErrorsTest(unittest.TestCase):
    def test_price_error_is_directly_derived_from_value_error(self):
        self.assertEqual(errors.PriceError.__bases__, (ValueError,))

    def test_invalid_ones_are_directly_derived_from_price_error(self):
        for name in WITH_MESSAGE:
            self.assertEqual(getattr(errors, name).__bases__, (errors.PriceError,), name)

    def test_keeping_ones_are_directly_derived_from_one_class(self):
        for name, (_, base) in KEEPING.items():
            self.assertEqual(getattr(errors, name).__bases__, (base,), name)

    def test_no_error_is_derived_from_another_but_price_error(self):
        classes = [getattr(errors, name) for name in (*WITH_MESSAGE, *KEEPING)]
        for one in classes:
            for other in classes:
                self.assertEqual(issubclass(one, other), one == other, (one, other))

    def test_only_the_invalid_ones_and_parse_error_are_price_errors(self):
        for name in KEEPING:
            self.assertEqual(issubclass(getattr(errors, name), errors.PriceError), name == "ParseError", name)
            self.assertEqual(issubclass(getattr(errors, name), ValueError), name == "ParseError", name)

    def test_not_derived_from_neighbouring_classes(self):
        self.assertFalse(issubclass(errors.NotTaken, (KeyError, IndexError)))
        self.assertFalse(issubclass(errors.Unstable, (OverflowError, ZeroDivisionError)))
        self.assertFalse(issubclass(errors.Refused, (OverflowError, ZeroDivisionError)))
        self.assertFalse(issubclass(errors.NothingToUndo, NotImplementedError))

    def test_message(self):
        for name in ("PriceError", *WITH_MESSAGE):
            with self.assertRaises(getattr(errors, name)):
                raise getattr(errors, name)("a message")

    def test_keeps_any_value(self):
        held = object()
        for name, (attribute, _) in KEEPING.items():
            for value in [*NO_STRINGS, "", "ab", held]:
                error = getattr(errors, name)(value)
                self.assertIs(getattr(error, attribute), value, (name, shown(value)))

    def test_attribute_is_set_on_each_object_when_it_is_created(self):
        for name, (attribute, _) in KEEPING.items():
            one, other = getattr(errors, name)(1), getattr(errors, name)(2)
            self.assertEqual((vars(one)[attribute], vars(other)[attribute]), (1, 2), name)
            self.assertNotIn(attribute, vars(getattr(errors, name)))

    def test_takes_one_value(self):
        for name in KEEPING:
            for values in ((), (1, 2)):
                with self.assertRaises(TypeError, msg=name):
                    getattr(errors, name)(*values)

    def test_str_of_an_error_can_be_asked_for(self):
        for name in KEEPING:
            for value in NO_STRINGS:
                self.assertIsInstance(str(getattr(errors, name)(value)), str)
