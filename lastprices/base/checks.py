"""Checks of arguments, which raise the errors that many functions have in common."""

from lastprices.base.machines import Machine
from lastprices.base.words import is_count, is_letter, is_text
from lastprices.errors import InvalidMachine, InvalidNumber, InvalidText


def check_machine(value):
    """Raises InvalidMachine if the value is no machine."""
    if not isinstance(value, Machine):
        raise InvalidMachine("this is no machine")


def check_text(value):
    """Raises InvalidText if the value is no text."""
    if not is_text(value):
        raise InvalidText("this is no text")


def check_number(value, most):
    """Raises InvalidNumber if the value is not an integer from 0 to some number."""
    if not is_count(value) or value > most:
        raise InvalidNumber(value)


def check_positive(value):
    """Raises InvalidNumber if the value is not an integer of at least 1."""
    if not is_count(value) or value == 0:
        raise InvalidNumber(value)


def check_letter(value):
    """Raises InvalidText if the value is no letter."""
    if not is_letter(value):
        raise InvalidText("this is no letter")
