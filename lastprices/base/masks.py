"""Integers whose bits tell which of some things are meant: states, numbers, or other sets."""


def ones_in(mask):
    """How many bits of an integer are set."""
    return f"{mask:b}".count("1")


def numbers_in(mask):
    """The ascending list of the numbers of the bits that are set in an integer."""
    if 8 * ones_in(mask) > mask.bit_length():
        return [number for number, sign in enumerate(f"{mask:b}"[::-1]) if sign == "1"]
    numbers = []
    while mask > 0:
        rest = mask & mask - 1
        numbers.append((mask ^ rest).bit_length() - 1)
        mask = rest
    return numbers


def unions_of(masks):
    """The list of the unions of some masks: at each number that of those for which it has a bit, lowest bits first."""
    unions = [0]
    for mask in list(masks):
        unions = unions + [union | mask for union in unions]
    return unions
