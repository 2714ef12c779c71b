"""The sets of states to which texts lead from the first states.

A set is an integer that has a bit for each state, in ascending order from the lowest bit on.
"""

from lastprices.base.masks import unions_of
from lastprices.base.ways import set_after
from lastprices.base.words import LETTERS
from lastprices.errors import TooMany

MAX_SETS = 20000

# Where no more sets than that are waiting, they are followed one by one.
FEW = 100
# Of more sets so many are followed at once.
MANY = 1000


class Leads:
    """Where one letter leads from sets of states, by its images, for a machine with so many states."""

    def __init__(self, images, many):
        self._images = images
        # A set is put together of two halves; so many bits are in the higher one and in the lower one.
        self._high = many - many // 2
        self._low = many // 2
        # The lists of the sets after each half, which are made when they are needed.
        self._highs = []
        self._lows = []

    def sets_after(self, sets, many):
        """The list of the sets to which the letter leads from some sets, when so many were found."""
        if 8 * many < 1 << self._high:
            # Halves are still more than sets.
            return [set_after(self._images, bits) for bits in sets]
        if not self._highs:
            ends = dict(self._images)
            images = [ends.get(1 << number, 0) for number in range(self._low + self._high)]
            self._highs = unions_of(images[self._low:])
            self._lows = unions_of(images[:self._low])
        highs, lows, split, low = self._highs, self._lows, self._low, (1 << self._low) - 1
        return [highs[bits >> split] | lows[bits & low] for bits in sets]


def numbered_sets(machine):
    """The list of all sets, that of the first states at its head, and for each set the list of those after it.

    Behind a set stand the indexes of the sets to which the letters of the machine lead from it, in ascending order of
    the letters.
    """
    images = [machine.images(letter) for letter in machine.letters]
    sets = [machine.first_set()]
    # A letter that no arc has is a letter all the same, and leads to the empty set.
    if len(machine.letters) < len(LETTERS):
        sets.append(0)
    numbers = {bits: number for number, bits in enumerate(sets)}
    afters = []
    while len(afters) < len(sets):
        if len(sets) - len(afters) > FEW:
            return _many_sets([Leads(pairs, len(machine)) for pairs in images], sets, afters)
        laters = [set_after(pairs, sets[len(afters)]) for pairs in images]
        for bits in laters:
            if bits not in numbers:
                numbers[bits] = len(sets)
                sets.append(bits)
        if len(sets) > MAX_SETS:
            raise TooMany(MAX_SETS)
        afters.append([numbers[bits] for bits in laters])
    return sets, afters


def _many_sets(letters, sets, afters):
    """The same, where many sets are followed at once: by where the letters lead, and by what was found as yet."""
    sets = list(sets)
    seen = set(sets)
    # By letters: the sets after all sets that were followed.
    found = [[sets[row[at]] for row in afters] for at in range(len(letters))]
    followed = len(afters)
    while followed < len(sets):
        some = sets[followed:followed + MANY]
        followed += len(some)
        for at, leads in enumerate(letters):
            laters = leads.sets_after(some, len(sets))
            found[at].extend(laters)
            news = []
            for bits in laters:
                if bits not in seen:
                    seen.add(bits)
                    news.append(bits)
            sets.extend(news)
        if len(sets) > MAX_SETS:
            raise TooMany(MAX_SETS)
    numbers = {bits: number for number, bits in enumerate(sets)}
    afters = [[numbers[bits] for bits in laters] for laters in found]
    return sets, list(zip(*afters))


def useful_sets(machine, length):
    """The list of the sets of states from which some text with 0, 1, .. and `length` letters leads to a last state."""
    turned = ~machine
    images = [turned.images(letter) for letter in turned.letters]
    useful = [machine.last_set()]
    while len(useful) <= length:
        bits = 0
        for pairs in images:
            bits = bits | set_after(pairs, useful[-1])
        useful.append(bits)
    return useful
