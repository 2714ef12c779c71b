"""The sets of states to which texts lead from the first states.

A set is an integer that has a bit for each state, in ascending order from the lowest bit on.
"""

from lastprices.base.words import LETTERS
from lastprices.errors import TooMany

MAX_SETS = 20000


def bits_of(machine, states):
    """The set of some states of a machine."""
    return sum([1 << number for number, state in enumerate(machine.states) if state in states])


def numbered_sets(machine):
    """The list of all sets, that of the first states at its head, and for each set the list of those after it.

    Behind a set stand the indexes of the sets to which the letters of the machine lead from it, in ascending order of
    the letters.
    """
    images = [_images(machine, letter) for letter in machine.letters]
    sets = [bits_of(machine, machine.firsts)]
    # A letter that no arc has is a letter all the same, and leads to the empty set.
    if len(machine.letters) < len(LETTERS):
        sets.append(0)
    numbers = {bits: number for number, bits in enumerate(sets)}
    afters = []
    while len(afters) < len(sets):
        laters = [_after(pairs, sets[len(afters)]) for pairs in images]
        for bits in laters:
            if bits not in numbers:
                numbers[bits] = len(sets)
                sets.append(bits)
        if len(sets) > MAX_SETS:
            raise TooMany(MAX_SETS)
        afters.append([numbers[bits] for bits in laters])
    return sets, afters


def useful_sets(machine, length):
    """The list of the sets of states from which some text with 0, 1, .. and `length` letters leads to a last state."""
    turned = ~machine
    images = [_images(turned, letter) for letter in turned.letters]
    useful = [bits_of(machine, machine.lasts)]
    while len(useful) <= length:
        bits = 0
        for pairs in images:
            bits = bits | _after(pairs, useful[-1])
        useful.append(bits)
    return useful


def _images(machine, letter):
    """The list of the pairs of the bit of a state and of the set to which a letter leads from it."""
    images = []
    for number, state in enumerate(machine.states):
        laters = [later for later, _ in machine.steps(state, letter)]
        images.append((1 << number, bits_of(machine, laters)))
    return images


def _after(pairs, bits):
    """The set to which a letter leads from a set, by its images."""
    after = 0
    for bit, image in pairs:
        if bits & bit:
            after = after | image
    return after
