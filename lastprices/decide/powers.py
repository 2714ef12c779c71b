"""Finite powers: how many pieces are enough for all texts that are put together of pieces."""

from lastprices.base.checks import check_machine, check_text
from lastprices.base.ways import set_after
from lastprices.base.words import is_text
from lastprices.decide.papers import is_limited, last_price
from lastprices.errors import InvalidText
from lastprices.read.combined import pieces
from lastprices.read.prices import MAX_LENGTH, cheapest, price_of


def has_finite_power(machine):
    """Whether there is a number of pieces that is enough for all texts that are put together of pieces."""
    return is_limited(pieces(machine))


def power(machine):
    """The least number of pieces that is enough for all texts put together of pieces, None if there is none."""
    return last_price(pieces(machine))


def split(machine, text):
    """Any tuple, as short as possible, of pieces that put a text together."""
    check_machine(machine)
    check_text(text)
    made = pieces(machine)
    run = cheapest(made, text)
    # A run comes back to the new state behind each piece.
    ends = [at for at, state in enumerate(run) if state == made.firsts[0]]
    return tuple([text[begin:end] for begin, end in zip(ends, ends[1:])])


def is_split(machine, text, value):
    """Whether the value is a tuple of pieces that puts a text together."""
    check_machine(machine)
    check_text(text)
    if not isinstance(value, tuple) or not all([isinstance(piece, str) for piece in value]):
        return False
    if "".join(value) != text:
        return False
    return all([piece != "" and piece in machine for piece in sorted(set(value))])


def least_pieces(machine, text):
    """The least number of pieces that put a text together, None if there is none."""
    check_machine(machine)
    check_text(text)
    return price_of(pieces(machine), text)


def splits_of(machine, text):
    """In how many ways a text is put together of pieces."""
    ends = _piece_ends(machine, text)
    ways = [1] + [0] * len(text)
    for begin in range(len(text)):
        for end in ends[begin]:
            ways[end] = ways[end] + ways[begin]
    return ways[-1]


def powers_taken(machine, text):
    """The ascending tuple of all numbers of pieces of which a text can be put together."""
    ends = _piece_ends(machine, text)
    # The numbers of pieces ahead of each place, each of them a bit.
    numbers = [1] + [0] * len(text)
    for begin in range(len(text)):
        for end in ends[begin]:
            numbers[end] = numbers[end] | numbers[begin] << 1
    return tuple([number for number in range(len(text) + 1) if numbers[-1] >> number & 1])


def _piece_ends(machine, text):
    """For each place in a text of at most 200 letters the list of the places where pieces end that begin there."""
    check_machine(machine)
    if not is_text(text) or len(text) > MAX_LENGTH:
        raise InvalidText("this is no text of at most 200 letters")
    lasts = machine.last_set()
    known = {}
    ends = []
    for begin in range(len(text)):
        ends.append([])
        states = machine.first_set()
        for at in range(begin, len(text)):
            place = (text[at], states)
            if place not in known:
                known[place] = set_after(machine.images(text[at]), states)
            states = known[place]
            if states & lasts:
                ends[-1].append(at + 1)
    return ends
