"""The squares of a web, each with a pattern of as few signs as possible.

This takes far longer than to find the squares with any patterns, of which some can be too long, though.

A pattern is a row of items, which are letters and repeated parts; so each square of a web is the square of an item, or
it comes from another square by one more item behind it. This is followed in the order of the lengths of patterns: a
square is settled with its shortest pattern, and is put together with each item that is settled, too.
"""

from heapq import heappop, heappush

from lastprices.signs.patterns import MAX_SIGNS
from lastprices.signs.products import Factor, is_stable_square, repeat_of
from lastprices.signs.squares import letter_rows

# In the place of the number of a square, where there is none.
NONE = -1


class Shortest:
    """The squares of the web of a machine, with their patterns."""

    def __init__(self, machine):
        # The least known length of a pattern, by the rows of its square.
        self._least = {}
        self._waiting = []
        # By the numbers of settled squares: their rows, and the lengths and texts of their patterns.
        self._rows = []
        self._lengths = []
        self._texts = []
        # By the numbers of those that are items: the squares as factors.
        self._items = {}
        for letter in machine.letters:
            self._offer(1, (NONE, NONE, letter), letter_rows(machine, letter))

    def patterns(self):
        """A dict from the rows of all squares to the texts of patterns, empty where these are too long."""
        while self._waiting:
            self._settle(heappop(self._waiting))
        return {rows: text for rows, text in zip(self._rows, self._texts)}

    def _offer(self, length, origin, rows):
        """Keeps a pattern of a square, if none is known that is as short."""
        if rows not in self._least or length < self._least[rows]:
            self._least[rows] = length
            heappush(self._waiting, (length, origin, rows))

    def _settle(self, found):
        """Settles a square with its shortest pattern."""
        length, origin, rows = found
        # Where a shorter pattern of the same square was found later, the longer one is waiting still.
        if self._least[rows] != length:
            return
        number = len(self._rows)
        self._rows.append(rows)
        self._lengths.append(length)
        self._texts.append(self._text_for(length, origin))
        if is_stable_square(rows):
            # Three more signs stand around what is repeated.
            self._offer(length + 3, (NONE, number, ""), repeat_of(rows))
        if origin[0] == NONE:
            self._items[number] = Factor(rows)
            for before in range(number):
                self._put_together(before, number)
        for item in list(self._items):
            self._put_together(number, item)

    def _put_together(self, number, item):
        """Offers a settled square with an item behind it."""
        length = self._lengths[number] + self._lengths[item]
        self._offer(length, (number, item, ""), self._items[item].behind(self._rows[number]))

    def _text_for(self, length, origin):
        """The text of a pattern, empty if it is too long for one."""
        if length > MAX_SIGNS:
            return ""
        number, item, letter = origin
        if item == NONE:
            return letter
        if number == NONE:
            return f"({self._texts[item]})#"
        return self._texts[number] + self._texts[item]
