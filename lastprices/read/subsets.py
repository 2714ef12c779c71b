"""The sets of states to which texts lead from the first states.

A set is an integer that has a bit for each state, in ascending order from the lowest bit on.
"""

from lastprices.base.ways import set_after
from lastprices.base.words import LETTERS
from lastprices.errors import TooMany

MAX_SETS = 20000


def numbered_sets(machine):
    """The list of all sets, that of the first states at its head, and for each set the list of those after it.

    Behind a set stand the indexes of the sets to which the letters of the machine lead from it, in ascending order of
    the letters.
    """
    images = [machine.images(letter) for letter in machine.letters]
    sets = [machine.first_set()]
    # A letter that no arc has is a letter all the same, and leads to the empty set.
    if len(machine.letters) < len(LETTERS):
        sets.append(0)
    numbers = {bits: number for number, bits in enumerate(sets)}
    afters = []
    while len(afters) < len(sets):
        laters = [set_after(pairs, sets[len(afters)]) for pairs in images]
        for bits in laters:
            if bits not in numbers:
                numbers[bits] = len(sets)
                sets.append(bits)
        if len(sets) > MAX_SETS:
            raise TooMany(MAX_SETS)
        afters.append([numbers[bits] for bits in laters])
    return sets, afters


def useful_sets(machine, length):
    """The list of the sets of states from which some text with 0, 1, .. and `length` letters leads to a last state."""
    turned = ~machine
    images = [turned.images(letter) for letter in turned.letters]
    useful = [machine.last_set()]
    while len(useful) <= length:
        bits = 0
        for pairs in images:
            bits = bits | set_after(pairs, useful[-1])
        useful.append(bits)
    return useful

