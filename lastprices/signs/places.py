"""What squares and costs have in common: places in their rows, and machines that fit to them."""

from lastprices.base.checks import check_machine
from lastprices.base.machines import MAX_STATES
from lastprices.base.words import is_count
from lastprices.errors import InvalidNumber, InvalidOperation


def is_sized(value):
    """Whether the value is a tuple, and as long as there can be states."""
    return isinstance(value, tuple) and 1 <= len(value) <= MAX_STATES


def entry_at(rows, place):
    """The entry of rows at a place (i, j)."""
    if not isinstance(place, tuple) or len(place) != 2:
        raise InvalidNumber(place)
    if not all([is_count(number) and number < len(rows) for number in place]):
        raise InvalidNumber(place)
    return rows[place[0]][place[1]]


def check_size(many, expected):
    """Raises InvalidOperation if there are not as many states as there have to be."""
    if many != expected:
        raise InvalidOperation("these are for another number of states")


def entries_between(rows, machine):
    """The list of the entries of rows from the first states to the last states of a machine."""
    check_machine(machine)
    check_size(len(machine), len(rows))
    return [rows[first][last] for first in machine.first_numbers() for last in machine.last_numbers()]
