"""Pledges: what can be demanded of a machine, and whether it holds."""

from lastprices.base.machines import Machine
from lastprices.base.words import is_count, is_text
from lastprices.decide.alike import is_ordered_up_to
from lastprices.decide.papers import last_price
from lastprices.decide.powers import power
from lastprices.errors import InvalidMachine, ParseError
from lastprices.rows.tables import MAX_CAP


def is_pledge(value):
    """Whether the value is a pledge."""
    if not isinstance(value, tuple) or len(value) == 0 or not isinstance(value[0], str):
        return False
    if value[0] == "limited":
        return len(value) == 1
    if value[0] == "most" or value[0] == "power":
        return len(value) == 2 and is_count(value[1]) and value[1] <= MAX_CAP
    if value[0] == "costs":
        return len(value) == 3 and is_text(value[1]) and (value[2] is None or is_count(value[2]))
    return value[0] == "ordered" and len(value) == 2 and _is_lines(value[1])


def is_among(pledges, value):
    """Whether the value is one of some pledges."""
    # True is no 1 here.
    return isinstance(value, tuple) and value in pledges and not any([isinstance(part, bool) for part in value])


def is_held(machine, last, pledge):
    """Whether a pledge holds for a machine, by its last price, None if it is not limited."""
    kind = pledge[0]
    if kind == "limited":
        return last is not None
    if kind == "most":
        return last is not None and last <= pledge[1]
    if kind == "costs":
        return machine(pledge[1]) == pledge[2]
    if kind == "power":
        many = power(machine)
        return many is not None and many <= pledge[1]
    lines = pledge[1]
    return last is not None and _is_ordered(machine, last, Machine.from_lines(*lines))


def _is_ordered(machine, last, other):
    """Whether another machine is limited, and takes no text that this limited one does not take for no more."""
    other_last = last_price(other)
    return other_last is not None and is_ordered_up_to(machine, other, max(last, other_last))


def _is_lines(value):
    """Whether the value is the tuple of the lines of a machine, in their order."""
    if not isinstance(value, tuple):
        return False
    try:
        machine = Machine.from_lines(*value)
    except (ParseError, InvalidMachine):
        return False
    return machine.lines == value
