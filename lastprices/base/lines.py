"""The lines of machines: how they are written, and what they tell.

What a line tells is a pair: of "first" or "last" and a tuple of states, or of the place of an arc and its price.
"""

from lastprices.base.parts import is_ends, is_place
from lastprices.errors import ParseError

FIGURES = "0123456789"


def lines_of(firsts, lasts, arcs):
    """The tuple of the lines of a machine, those of its arcs in the order of the dict."""
    lines = [_written_ends("first", firsts), _written_ends("last", lasts)]
    for state, letter, later in arcs:
        price = arcs[state, letter, later]
        lines.append(f"arc {state} {letter} {price} {later}")
    return tuple(lines)


def told_by_line(value):
    """The pair that a line tells, None if the value is no line."""
    if not isinstance(value, str):
        return None
    # Where other blanks than single ones stand, some word is empty, or holds a blank.
    words = value.split(" ")
    if words[0] == "first" or words[0] == "last":
        return _told_by_ends(words)
    if words[0] == "arc":
        return _told_by_arc(words)
    return None


def told_by_lines(lines):
    """A dict of the pairs that some lines tell; no two of them tell of the same thing."""
    told = {}
    for number, line in enumerate(lines):
        pair = told_by_line(line)
        if pair is None or pair[0] in told:
            raise ParseError(number)
        told[pair[0]] = pair[1]
    return told


def _written_ends(word, states):
    """The line of first or of last states."""
    return " ".join([word, *states])


def _told_by_ends(words):
    """The pair that the words of a line of ends tell, None if they make none."""
    states = tuple(words[1:])
    if not is_ends(states):
        return None
    return words[0], states


def _told_by_arc(words):
    """The pair that the words of a line of an arc tell, None if they make none."""
    if len(words) != 5:
        return None
    place = (words[1], words[2], words[4])
    # All prices have one figure, so a longer word is a sign, a leading zero or too great a number.
    if not is_place(place) or len(words[3]) != 1 or words[3] not in FIGURES:
        return None
    return place, int(words[3])
