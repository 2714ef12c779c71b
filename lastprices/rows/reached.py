"""The rows to which texts lead from some rows, with all prices above a cap counted as one."""

from lastprices.base.ways import entering_of, row_after
from lastprices.errors import TooMany

def capped(row, cap):
    """A row with one more than the cap in the place of all greater prices."""
    return tuple([min(price, cap + 1) for price in row])


def reached_from(machine, cap, starts, limit):
    """A dict of the rows that texts of the letters of a machine reach from some rows: TooMany if it exceeds a limit.

    With each row it tells a pair: the list of the rows to which the letters lead from it, in ascending order of the
    letters, and how it was reached first, a pair of a row and a letter, None for the rows at the start. The rows stand
    in the order of the first ones of the shortest texts that lead to them.
    """
    entering = entering_of(machine, machine.letters)
    reached = {row: None for row in starts}
    rows = list(starts)
    afters = []
    while len(afters) < len(rows):
        row = rows[len(afters)]
        laters = [capped(row_after(entering[letter], row), cap) for letter in machine.letters]
        for letter, later in zip(machine.letters, laters):
            if later not in reached:
                reached[later] = (row, letter)
                rows.append(later)
        if len(rows) > limit:
            raise TooMany(limit)
        afters.append(laters)
    return {row: (laters, reached[row]) for row, laters in zip(rows, afters)}
