"""Products and repeats of squares, by their rows.

A row is also written as a number with a figure of three bits for each sign: `0` has all of them, and each greater sign
has one less, from below, down to `.` with none. So the least one of several signs has the bits of all of them, and the
greater one of two signs has those that both have.
"""

SIGNS = "01n."


def number_of(row):
    """The number of a row of signs."""
    return int(row.translate({ord("0"): "7", ord("1"): "6", ord("n"): "4", ord("."): "0"}), 8)


def row_of(number, many):
    """The row of so many signs with a number."""
    return f"{number:o}".zfill(many).translate({ord("7"): "0", ord("6"): "1", ord("4"): "n", ord("0"): "."})


def masks_for(many):
    """A dict from the signs to the numbers of rows that have nothing else."""
    return {sign: number_of(sign * many) for sign in SIGNS}


def row_behind(row, numbers, masks):
    """The row of a product, by the same row of the first square and the numbers of all rows of the second one."""
    least = 0
    for sign, number in zip(row, numbers):
        least = least | (number & masks[sign])
    return row_of(least, len(row))


def product_of(one, other):
    """The rows of the product of two squares."""
    numbers = [number_of(row) for row in other]
    masks = masks_for(len(other))
    return tuple([row_behind(row, numbers, masks) for row in one])


def repeat_of(rows):
    """The rows of the repeat of a stable square."""
    # The square itself, with ways only through single states in it, and itself again.
    signs = [row[number].replace("1", "n") for number, row in enumerate(rows)]
    return product_of(product_of(rows, diagonal(signs)), rows)


def diagonal(signs):
    """The rows of the square with some signs from each state to itself, and no other ways."""
    many = len(signs)
    return tuple(["." * number + sign + "." * (many - number - 1) for number, sign in enumerate(signs)])


def is_stable_square(rows):
    """Whether the product of a square with itself is the square."""
    return product_of(rows, rows) == rows


class Factor:
    """A square that is put behind many others, and keeps what it makes of their rows."""

    def __init__(self, rows):
        self._numbers = [number_of(row) for row in rows]
        self._masks = masks_for(len(rows))
        self._made = {}

    def behind(self, rows):
        """The rows of the product of another square and this one."""
        made = self._made
        for row in rows:
            if row not in made:
                made[row] = row_behind(row, self._numbers, self._masks)
        return tuple([made[row] for row in rows])
