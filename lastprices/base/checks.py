"""Checks of arguments, which raise the errors that many functions have in common."""

from lastprices.base.machines import Machine
from lastprices.base.words import is_count, is_text
from lastprices.errors import InvalidMachine, InvalidNumber, InvalidText


def check_machine(value):
    """Raises InvalidMachine if the value is no machine."""
    if not isinstance(value, Machine):
        raise InvalidMachine("this is no machine")


def check_text(value):
    """Raises InvalidText if the value is no text."""
    if not is_text(value):
        raise InvalidText("this is no text")


def check_number(value, most):
    """Raises InvalidNumber if the value is not an integer from 0 to some number."""
    if not is_count(value) or value > most:
        raise InvalidNumber(value)
