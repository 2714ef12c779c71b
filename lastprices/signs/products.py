"""Products and repeats of squares, by their rows.

A row is also written as a number with a figure of three bits for each sign: `0` has all of them, and each greater sign
has one less, from below, down to `.` with none. So the least one of several signs has the bits of all of them, and the
greater one of two signs has those that both have.
"""

SIGNS = "01n."

# From the numbers of signs to figures, and back.
TO_FIGURES = {48: "7", 49: "6", 110: "4", 46: "0"}
TO_SIGNS = {55: "0", 54: "1", 52: "n", 48: "."}


def row_number(row):
    """The number of a row of signs."""
    return int(row.translate(TO_FIGURES), 8)


def written_row(number, many):
    """The row of so many signs with a number."""
    return f"{number:o}".zfill(many).translate(TO_SIGNS)


def masks_for(many):
    """A dict from the signs to the numbers of rows that have nothing else."""
    units = ((1 << 3 * many) - 1) // 7
    return {"0": 7 * units, "1": 6 * units, "n": 4 * units, ".": 0}


def least_behind(row, numbers, masks):
    """The number of the row of a product, by that row of the first square and the numbers of those of the second."""
    least = 0
    for sign, number in zip(row, numbers):
        least = least | (number & masks[sign])
    return least


def product_of(one, other):
    """The rows of the product of two squares."""
    numbers = [row_number(row) for row in other]
    masks = masks_for(len(other))
    return tuple([written_row(least_behind(row, numbers, masks), len(other)) for row in one])


def repeat_of(rows):
    """The rows of the repeat of a stable square."""
    return repeat_by_numbers(rows, [row_number(row) for row in rows])


def repeat_by_numbers(rows, numbers):
    """The rows of the repeat of a stable square, by the numbers of its rows as well."""
    many = len(rows)
    masks = masks_for(many)
    # Ways go only through single states in it: the greater one of a sign and of that from the state to itself.
    rounds = row_number("".join([row[number].replace("1", "n") for number, row in enumerate(rows)]))
    ahead = [written_row(number & rounds, many) for number in numbers]
    return tuple([written_row(least_behind(row, numbers, masks), many) for row in ahead])


def diagonal(signs):
    """The rows of the square with some signs from each state to itself, and no other ways."""
    many = len(signs)
    return tuple(["." * number + sign + "." * (many - number - 1) for number, sign in enumerate(signs)])


def is_stable_square(rows):
    """Whether the product of a square with itself is the square."""
    return is_stable_by_numbers(rows, [row_number(row) for row in rows], masks_for(len(rows)))


def is_stable_by_numbers(rows, numbers, masks):
    """Whether the product of a square with itself is the square, by the numbers of its rows as well."""
    for row, number in zip(rows, numbers):
        # Of most squares one of the first rows tells that they are not stable.
        if least_behind(row, numbers, masks) != number:
            return False
    return True


class Factor:
    """A square that is put behind many others, and keeps what it makes of their rows."""

    def __init__(self, rows):
        self._numbers = [row_number(row) for row in rows]
        self._masks = masks_for(len(rows))
        self._made = {}

    def behind(self, rows):
        """The rows of the product of another square and this one."""
        made = self._made
        for row in rows:
            if row not in made:
                made[row] = written_row(least_behind(row, self._numbers, self._masks), len(row))
        return tuple([made[row] for row in rows])
