"""Costs: the least prices of ways from all states to all states."""

from lastprices.base.checks import check_machine, check_positive, check_text
from lastprices.base.ways import ends_along, entering_of
from lastprices.base.words import is_integer
from lastprices.errors import InvalidCosts
from lastprices.signs.places import check_size, entries_between, entry_at, is_sized
from lastprices.signs.squares import Square, sign_of


def is_costs(value):
    """Whether the value is the rows of costs."""
    return is_sized(value) and all([_is_row(row, len(value)) for row in value])


def unit_rows(many):
    """The rows of the costs of the empty text for so many states, which change none in a product."""
    return tuple([tuple([0 if number == start else -1 for number in range(many)]) for start in range(many)])


def product_rows(one, other):
    """The rows of the product of two costs, by their rows."""
    columns = list(zip(*other))
    return tuple([tuple([_least_sum(row, column) for column in columns]) for row in one])


def power_of(rows, number):
    """The rows of the product of so many of the same costs, at least one of them."""
    # The number has a highest bit, from which on each bit doubles what those before it make.
    made = rows
    for digit in f"{number:b}"[1:]:
        made = product_rows(made, made)
        if digit == "1":
            made = product_rows(made, rows)
    return made


class MadeRows:
    """Rows of costs that are computed here, whose entries can have more digits than those that are passed."""

    def __init__(self, made):
        self.made = made


class Costs:
    """Costs, which never change."""

    def __init__(self, rows):
        if isinstance(rows, MadeRows):
            rows = rows.made
        elif not is_costs(rows):
            raise InvalidCosts("these are not the rows of costs")
        self._rows = rows

    @classmethod
    def of_text(cls, machine, text):
        """The costs of all ways along a text."""
        check_machine(machine)
        check_text(text)
        return cls(tuple(ends_along(entering_of(machine, text), unit_rows(len(machine)), text)))

    @property
    def rows(self):
        """The tuple of the rows, which are tuples of integers."""
        return self._rows

    @property
    def signs(self):
        """The square with the signs of all entries."""
        return Square(tuple(["".join([sign_of(entry) for entry in row]) for row in self._rows]))

    def powered(self, number):
        """The product of so many of these costs."""
        check_positive(number)
        return Costs(MadeRows(power_of(self._rows, number)))

    def between(self, machine):
        """The least price from a first to a last state of a machine, None if there is none."""
        return min([price for price in entries_between(self._rows, machine) if price >= 0], default=None)

    def __mul__(self, other):
        if not isinstance(other, Costs):
            return NotImplemented
        check_size(len(other._rows), len(self._rows))
        return Costs(MadeRows(product_rows(self._rows, other._rows)))

    def __pow__(self, other):
        return self.powered(other)

    def __getitem__(self, at):
        return entry_at(self._rows, at)

    def __iter__(self):
        raise TypeError("costs cannot be iterated over")

    def __len__(self):
        return len(self._rows)

    def __eq__(self, other):
        if not isinstance(other, Costs):
            return False
        return self._rows == other._rows

    def __str__(self):
        return f"costs for {len(self._rows)} states"


def _is_row(value, many):
    """Whether the value is a row of costs for so many states."""
    if not isinstance(value, tuple) or len(value) != many:
        return False
    return all([is_integer(entry) and entry >= -1 for entry in value])


def _least_sum(row, column):
    """The least sum of two prices where there are both, -1 if there are nowhere."""
    return min([price + cost for price, cost in zip(row, column) if price >= 0 and cost >= 0], default=-1)
