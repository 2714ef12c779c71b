"""Machines compared with each other."""

from lastprices.base.checks import check_machine, check_number, check_text
from lastprices.decide.papers import last_price
from lastprices.errors import InvalidOperation
from lastprices.read.combined import free
from lastprices.rows.codes import Codes
from lastprices.rows.spread import Spread
from lastprices.rows.tables import MAX_CAP


def parting_text(one, other, *, up_to):
    """The first one of the shortest texts whose capped prices differ, None if there is none."""
    _check_capped(one, other, up_to)
    return _first_text(one, other, up_to, _differ)


def are_alike_up_to(one, other, *, up_to):
    """Whether no text has capped prices that differ."""
    _check_capped(one, other, up_to)
    return _first_text(one, other, up_to, _differ) is None


def dearer_text(one, other, *, up_to):
    """The first one of the shortest texts for which the first machine has not at most the capped price of the other."""
    _check_capped(one, other, up_to)
    return _first_text(one, other, up_to, _is_dearer)


def takes_less(one, other):
    """The first one of the shortest texts that only the second machine takes, None if there is none."""
    _check_both(one, other)
    return _first_text(free(one), free(other), 0, _is_dearer)


def takes_alike(one, other):
    """Whether both machines take the same texts."""
    _check_both(one, other)
    return _first_text(free(one), free(other), 0, _differ) is None


def are_alike(one, other):
    """Whether all texts have equal prices in two limited machines."""
    return _first_text(one, other, _greater_last(one, other), _differ) is None


def are_ordered(one, other):
    """Whether each text that the second one of two limited machines takes is taken by the first one, for no more."""
    return is_ordered_up_to(one, other, _greater_last(one, other))


def is_ordered_up_to(one, other, cap):
    """Whether each text that the second machine takes is taken by the first one, for no more of capped prices."""
    return _first_text(one, other, cap, _is_dearer) is None


def same_with(one, other, text):
    """Whether a text has equal prices in both machines."""
    _check_both(one, other)
    check_text(text)
    return one(text) == other(text)


def _check_both(one, other):
    """Raises InvalidMachine if one of both is no machine."""
    check_machine(one)
    check_machine(other)


def _check_capped(one, other, up_to):
    """Raises an error if one of the three is none."""
    _check_both(one, other)
    check_number(up_to, MAX_CAP)


def _greater_last(one, other):
    """The greater one of the last prices of two limited machines."""
    _check_both(one, other)
    lasts = [last_price(one), last_price(other)]
    if None in lasts:
        raise InvalidOperation("one of the machines is not limited")
    return max(lasts)


def _differ(price, cost):
    """Whether two prices differ; -1 stands for none."""
    return price != cost


def _is_dearer(price, cost):
    """Whether there is no price where there is another one, or a greater one than that; -1 stands for none."""
    return cost >= 0 and (price < 0 or price > cost)


def _first_text(one, other, cap, is_found):
    """The first one of the shortest texts with such prices in both machines, None if there is none.

    All pairs of rows are looked for, as there can be too many of them even where a text is found early.
    """
    codes = Codes([one, other], cap)
    spread = Spread(codes, [codes.first_code])
    spread.grow_fully()
    for code in spread.befores:
        if is_found(codes.price_of(code, 0), codes.price_of(code, 1)):
            return spread.text_to(code)
    return None
