"""Costs: the least prices of ways from all states to all states."""

from lastprices.base.checks import check_machine, check_positive, check_text
from lastprices.base.words import is_integer
from lastprices.errors import InvalidCosts
from lastprices.signs.places import check_size, entries_between, entry_at, is_sized
from lastprices.signs.powers import power_of, product_rows, unit_rows
from lastprices.signs.squares import Square, sign_of


def is_costs(value):
    """Whether the value is the rows of costs."""
    return is_sized(value) and all([_is_row(row, len(value)) for row in value])


class MadeRows:
    """Rows of costs that are computed here, whose entries can have more digits than those that are passed."""

    def __init__(self, made):
        self.made = made


class Costs:
    """Costs, which never change."""

    def __init__(self, rows):
        if isinstance(rows, MadeRows):
            rows = rows.made
        elif not is_costs(rows):
            raise InvalidCosts("these are not the rows of costs")
        self._rows = rows

    @classmethod
    def of_text(cls, machine, text):
        """The costs of all ways along a text."""
        check_machine(machine)
        check_text(text)
        return cls(MadeRows(tuple(machine.track().ends_along(unit_rows(len(machine)), text))))

    @property
    def rows(self):
        """The tuple of the rows, which are tuples of integers."""
        return self._rows

    @property
    def signs(self):
        """The square with the signs of all entries."""
        return Square(tuple(["".join([sign_of(entry) for entry in row]) for row in self._rows]))

    def powered(self, number):
        """The product of so many of these costs."""
        check_positive(number)
        return Costs(MadeRows(power_of(self._rows, number)))

    def between(self, machine):
        """The least price from a first to a last state of a machine, None if there is none."""
        return min([price for price in entries_between(self._rows, machine) if price >= 0], default=None)

    def __mul__(self, other):
        if not isinstance(other, Costs):
            return NotImplemented
        check_size(len(other._rows), len(self._rows))
        return Costs(MadeRows(product_rows(self._rows, other._rows)))

    def __pow__(self, other):
        return self.powered(other)

    def __getitem__(self, at):
        return entry_at(self._rows, at)

    def __iter__(self):
        raise TypeError("costs cannot be iterated over")

    def __len__(self):
        return len(self._rows)

    def __eq__(self, other):
        if not isinstance(other, Costs):
            return False
        return self._rows == other._rows

    def __str__(self):
        return f"costs for {len(self._rows)} states"


def _is_row(value, many):
    """Whether the value is a row of costs for so many states."""
    if not isinstance(value, tuple) or len(value) != many:
        return False
    return all([is_integer(entry) and entry >= -1 for entry in value])
