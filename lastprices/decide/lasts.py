"""The last prices of limited machines."""

from lastprices.errors import TooMany
from lastprices.rows.codes import Codes
from lastprices.rows.spread import MAX_TABLE, Spread
from lastprices.rows.tables import MAX_CAP

# Where the search begins; most machines have a last price that is no greater.
FIRST_CAP = 4


def spread_to_last(machine):
    """The pair of the last price of a limited machine and of all codes of rows up to some cap that is not less.

    TooMany if there are too many rows for a cap up to the last price, or behind that if this is too great.
    """
    # No cap below the first number is enough, and for caps from the second one on there are too many rows.
    low, high = 0, MAX_CAP + 1
    cap = FIRST_CAP
    while low < high:
        spread = full_spread(machine, cap)
        if spread is None:
            high = cap
        else:
            last = max([spread.codes.price_of(code) for code in spread.befores])
            if last <= cap:
                return max(last, 0), spread
            low = cap + 1
        # As long as there were never too many rows, the caps are made much greater, as most are too little.
        cap = min(4 * low, MAX_CAP) if high > MAX_CAP else (low + high) // 2
    raise TooMany(MAX_CAP if high > MAX_CAP else MAX_TABLE)


def full_spread(machine, cap):
    """All codes of rows to which texts lead, None if there are too many."""
    codes = Codes([machine], cap)
    spread = Spread(codes, [codes.first_code])
    try:
        spread.grow_fully()
    except TooMany:
        return None
    return spread
