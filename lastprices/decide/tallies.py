"""How many texts go on from rows, by the numbers of letters that are left, and by what is left of a price."""

from lastprices.decide.layers import Layers, are_too_many
from lastprices.decide.spents import field_bits, new_layers, shifts_for, sums_to
from lastprices.errors import TooMany
from lastprices.read.prices import MAX_LENGTH
from lastprices.rows.tables import MAX_CAP

# For fewer capped rows in all, or for so few of them behind each number of letters, no tally is made that is kept.
FEW_ROWS = 300
FEW_EACH = 16
# The rows of a tally that a machine keeps have so many bits in all, for one number of letters and one price.
TALLY_BITS = 2000
# A machine keeps no tally for capped rows with more rows than that in all.
MAX_KEPT = 50000


def tally_for(machine, length, price):
    """A tally for the texts with so many letters and just this price."""
    tally, layers = _tally_or_layers(machine, length, price)
    if tally is None:
        tally = CappedTally(layers, length, price)
        if _rows_in(layers, length) <= MAX_KEPT:
            machine.remember("capped", tally)
    return tally


def number_for(machine, length, price):
    """The number of the taken texts with so many letters and just this price."""
    tally, layers = _tally_or_layers(machine, length, price)
    if tally is not None:
        return tally.number_behind(length, 0, price)
    prices = layers.codes.prices_at(layers.row_codes)
    return sum([value for row, value in sums_to(layers, length, None) if prices[row] == price])


def _tally_or_layers(machine, length, price):
    """The pair of a tally that a machine keeps, None if it keeps none, and then of the layers of its capped rows."""
    tally = _kept_tally(machine, length, price)
    if tally is not None:
        return tally, None
    layers = Layers(machine, price)
    layers.grow_to(length)
    return _new_tally(machine, layers, length, price), layers


def _kept_tally(machine, length, price):
    """The tally that a machine keeps, for texts with so many letters and just this price, None if it keeps none."""
    tally = machine.remembered("capped")
    if isinstance(tally, CappedTally) and tally.is_for(length, price):
        return tally
    tally = machine.remembered("tally")
    # With a cap there are no more rows than for each lowered one and each sum up to the cap, or one more.
    if not isinstance(tally, PricedTally) or are_too_many(len(tally.layers.row_codes) * (price + 2)):
        return None
    if price > tally.most:
        tally = PricedTally(tally.layers, price)
        machine.remember("tally", tally)
    tally.reach(length)
    return tally


def _new_tally(machine, layers, length, price):
    """A tally that a machine keeps from now on, None if there are many lowered rows, or few capped ones."""
    if machine.remembered("tally") is not None or _rows_in(layers, length) <= max(FEW_ROWS, FEW_EACH * length):
        return None
    lowered = new_layers(machine, length)
    try:
        are_few = lowered.is_closed_within(max(TALLY_BITS // field_bits(len(lowered.leads), MAX_LENGTH), 1))
    except TooMany:
        are_few = False
    # An empty tuple tells that it was tried.
    machine.remember("tally", PricedTally(lowered, price) if are_few else ())
    return _kept_tally(machine, length, price)


def _rows_in(layers, length):
    """How many rows are behind no letters, one letter, and so on, up to so many letters, in all."""
    return sum([layers.size_at(letters) for letters in range(length + 1)])


class CappedTally:
    """What goes on from rows that are capped at a price, for one length."""

    def __init__(self, layers, length, price):
        self.layers = layers
        self._length, self._price = length, price
        ends = [1 if cost == price else 0 for cost in layers.prices(length)]
        # By numbers of letters that are left, then by the numbers of rows.
        self._counts = [ends if layers.is_steady else dict(zip(layers.lists[length], ends))]
        for at in reversed(range(length)):
            self._counts.append(_sums_ahead(layers, self._counts[-1], at))

    def is_for(self, length, price):
        """Whether it is for texts with so many letters and just this price."""
        return self._length == length and self._price == price

    def number_behind(self, left, row, _):
        """How many texts with so many letters lead from a row to the price."""
        return self._counts[left][row]


def _sums_ahead(layers, behind, length):
    """The sums of what is behind the rows with so many letters, by the numbers of these rows."""
    if layers.is_steady:
        sums = [0] * layers.ends[length]
        for laters in layers.leads:
            sums = [one + behind[later] for one, later in zip(sums, laters)]
        return sums
    return {row: sum([behind[laters[row]] for laters in layers.leads]) for row in layers.lists[length]}


class PricedTally:
    """What goes on from all lowered rows of a machine that has few, for all lengths and for prices up to some number.

    Numbers of texts by prices are kept as one integer, with a field for each price.
    """

    def __init__(self, layers, price):
        self.layers = layers
        self.most = min(2 * price + 30, MAX_CAP)
        self._bits = field_bits(len(layers.leads), MAX_LENGTH)
        self._field = (1 << self._bits) - 1
        self._fields = (1 << self._bits * (self.most + 1)) - 1
        shifts = shifts_for(layers, 0, self._bits)
        self._steps = [list(zip(laters, told)) for laters, told in zip(layers.leads, shifts)]
        prices = layers.codes.prices_at(layers.row_codes)
        # By numbers of letters that are left, then by the numbers of rows.
        self._counts = [[1 << price * self._bits if 0 <= price <= self.most else 0 for price in prices]]

    def reach(self, length):
        """Counts the texts with up to so many letters."""
        while len(self._counts) <= length:
            behind = self._counts[-1]
            sums = [0] * len(behind)
            for steps in self._steps:
                sums = [one + (behind[later] << shift) for one, (later, shift) in zip(sums, steps)]
            self._counts.append([one & self._fields for one in sums])

    def number_behind(self, left, row, rest):
        """How many texts with so many letters lead from a row to just this rest of a price."""
        return self._counts[left][row] >> rest * self._bits & self._field if rest >= 0 else 0
