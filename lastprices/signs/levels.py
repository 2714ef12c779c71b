"""Squares as integers, so that many of them can be multiplied.

The *levels* of a square are a triple of integers. They have a bit for each place, that of (i, j) at i * N + j: the bit
of the first one is set where the sign is `0`, of the second one where it is `1` at most, and of the third one where it
is `n` at most. The level of a product is the product of levels as matrices of bits.
"""

SIGNS = "01n."

# A sign for the bits at its place, written as digits.
SIGN_AT = {("1", "1", "1"): "0", ("0", "1", "1"): "1", ("0", "0", "1"): "n", ("0", "0", "0"): "."}


def levels_of(rows):
    """The levels of a square, by its rows."""
    # The lowest bit is that of the first place, and numbers are written from their highest bit on.
    signs = "".join(rows)[::-1]
    zero = signs.translate({ord("0"): "1", ord("1"): "0", ord("n"): "0", ord("."): "0"})
    little = signs.translate({ord("0"): "1", ord("n"): "0", ord("."): "0"})
    growing = signs.translate({ord("0"): "1", ord("n"): "1", ord("."): "0"})
    return int(zero, 2), int(little, 2), int(growing, 2)


def rows_of(levels, many):
    """The rows of the square for so many states with some levels."""
    zero, little, growing = [_digits(level, many) for level in levels]
    signs = "".join([SIGN_AT[place] for place in zip(zero, little, growing)])
    return tuple([signs[at:at + many] for at in range(0, many * many, many)])


def product_of(one, other, many):
    """The levels of the product of two squares for so many states, by their levels."""
    places = list(range(many))
    return tuple([_through(left, right, many, places) for left, right in zip(one, other)])


def repeat_of(levels, many):
    """The levels of the repeat of a stable square for so many states, by its levels."""
    zero, little, growing = levels
    # A little sign at (m, m) becomes a growing one, so nothing that is less leads through such an m.
    free = _loops(zero, many)
    taken = _loops(growing, many)
    return (_through(zero, zero, many, free), _through(little, little, many, free),
        _through(growing, growing, many, taken))


def _digits(level, many):
    """The bits of a level as digits, that of the first place at their head."""
    return f"{level:b}".zfill(many * many)[::-1]


def _loops(level, many):
    """The list of all m with a bit at (m, m)."""
    return [number for number in range(many) if (level >> (number * many + number)) & 1]


def _through(one, other, many, places):
    """The product of two matrices of bits, with only some m between them."""
    full = (1 << many) - 1
    # The bits at all (i, 0).
    column = ((1 << (many * many)) - 1) // full
    bits = 0
    for place in places:
        # A column times a row has the row wherever the column has a bit; as these are N bits apart, nothing overlaps.
        bits = bits | ((one >> place) & column) * ((other >> (place * many)) & full)
    return bits
