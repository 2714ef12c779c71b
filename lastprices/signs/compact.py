"""Whether a web has growing squares, found faster for machines with few states, and without patterns.

A square is one integer here: the figures of all of its signs (see products), one row behind the other. What comes of a
square by a generator behind it is put together of what comes of both halves of its rows, and this of what comes of
single rows: these are few, and come again and again. As in closure, the generators are the squares of letters and
those repeats that are no products of the generators that are there already.

The squares of the machine turned round are the same with rows and columns exchanged, so they can be found instead. This
is done where the letters have fewer different columns than rows, as then there are fewer of these in all, mostly.
"""

from lastprices.signs.products import masks_for, row_number
from lastprices.signs.squares import letter_rows


class Compact:
    """The squares of the web of a machine, as long as there are no more of them than a limit."""

    def __init__(self, machine, limit):
        many = len(machine)
        self._limit = limit
        self._many = many
        # How many bits a row has, and how many stand below the first half of the rows.
        self._width = 3 * many
        self._below = many // 2 * self._width
        # The bits of the last row, and of the second half.
        self._row = (1 << self._width) - 1
        self._low = (1 << self._below) - 1
        # A sign times the first number stands at all places of a row, and a row times the second one in all rows.
        self._signs = self._row // 7
        self._copies = ((1 << many * self._width) - 1) // self._row
        # The last signs of all rows; and the lowest bits of the signs from each state to itself.
        self._column = 7 * self._copies
        self._rounds = sum([1 << state * (self._width + 3) for state in range(many)])
        # By the figure of the sign from a state to itself: what is left of signs when it is gone through in a repeat.
        masks = masks_for(many * many)
        self._left = (0, 0, 0, 0, masks["n"], 0, masks["n"], masks["0"])
        # Whether rows and columns are exchanged.
        self._is_turned = False
        # All squares that are known.
        self._squares = {}
        # By the numbers of generators: their rows, the last one first.
        self._factors = []
        # By rows beside each other, or single ones: the list of what comes of them by each generator behind them.
        self._parts = {}
        self._find(machine)

    def is_whole(self):
        """Whether there are no more squares than the limit."""
        return len(self._squares) <= self._limit

    def has_growing(self, machine):
        """Whether the least sign of a square from a first to a last state of the machine is `n`."""
        lows = 0
        befores, laters = machine.first_numbers(), machine.last_numbers()
        if self._is_turned:
            befores, laters = laters, befores
        for before in befores:
            for later in laters:
                lows = lows | 1 << 3 * (self._many * (self._many - before) - later - 1)
        # Of the figures of signs all but that of `.` have the highest bit, and those of lesser signs than `n` the next.
        highs, middles = lows << 2, lows << 1
        for code in self._squares:
            if code & highs and not code & middles:
                return True
        return False

    def _find(self, machine):
        """Finds all squares, or one more than the limit at least."""
        squares = self._squares
        for rows in self._letters_of(machine):
            code = row_number("".join(rows))
            if code not in squares:
                self._add(code)
        self._follow(list(squares))
        known = 0
        while known < len(squares) and self.is_whole():
            batch = list(squares)[known:]
            known = len(squares)
            for repeat in self._new_repeats(batch):
                # Behind those that were added ahead of it, it can be a product.
                if repeat not in squares and self.is_whole():
                    befores = list(squares)
                    self._add(repeat)
                    found = self._behind(befores, [len(self._factors) - 1])
                    self._follow([repeat, *found])

    def _letters_of(self, machine):
        """The list of the rows of the squares of letters, or of their columns if fewer of these are different."""
        letters = [letter_rows(machine, letter) for letter in machine.letters]
        turned = [["".join(column) for column in zip(*rows)] for rows in letters]
        self._is_turned = _many_different(turned) < _many_different(letters)
        return turned if self._is_turned else letters

    def _new_repeats(self, batch):
        """The list of those repeats of some squares that are not known."""
        rounds = self._rounds
        repeats = {}
        for code in batch:
            # Without the sign `1` on the way from a state to itself the repeat is the square.
            if (code >> 1 ^ code) & rounds:
                repeat = self._repeat(code)
                if repeat not in self._squares:
                    repeats[repeat] = True
        # A product has at most as many different rows as what stands first in it, so it mostly comes of these ones.
        return sorted(list(repeats), key=self._different_rows, reverse=True)

    def _different_rows(self, code):
        """How many different rows a square has."""
        return len(set([code >> state * self._width & self._row for state in range(self._many)]))

    def _repeat(self, code):
        """The repeat of a square, or the square itself if it is not stable."""
        column, signs, row, copies = self._column, self._signs, self._row, self._copies
        least = repeat = 0
        # From the last state on: the signs to it, those from it, and the one from it to itself.
        ahead = behind = around = code
        for _ in range(self._many):
            through = (ahead & column) * signs & (behind & row) * copies
            # The product is the least of what goes through all states.
            if through | code != code:
                return code
            least = least | through
            repeat = repeat | through & self._left[around & 7]
            ahead, behind, around = ahead >> 3, behind >> self._width, around >> self._width + 3
        return repeat if least == code else code

    def _add(self, code):
        """Adds a generator."""
        width, row, parts = self._width, self._row, self._parts
        factor = [code >> state * width & row for state in range(self._many)]
        self._squares[code] = True
        self._factors.append(factor)
        for part in list(parts):
            if part <= row:
                made = self._row_times(part, factor)
            else:
                # What these are put together of was known before them.
                made = parts[part >> width][-1] << width | parts[part & row][-1]
            parts[part].append(made)

    def _follow(self, batch):
        """Adds what comes of some new squares by all generators behind them."""
        numbers = list(range(len(self._factors)))
        while batch and self.is_whole():
            batch = self._behind(batch, numbers)

    def _behind(self, batch, numbers):
        """The list of the new squares that come of some squares by generators with some numbers behind them."""
        squares, parts, below, low = self._squares, self._parts, self._below, self._low
        found = []
        for code in list(batch):
            ones, twos = parts.get(code >> below), parts.get(code & low)
            if ones is None:
                ones = self._filled(code >> below)
            if twos is None:
                twos = self._filled(code & low)
            for number in numbers:
                later = ones[number] << below | twos[number]
                if later not in squares:
                    squares[later] = True
                    found.append(later)
        return found

    def _filled(self, part):
        """The list of what comes of some rows by each generator behind them, kept from now on."""
        width, row = self._width, self._row
        if part <= row:
            laters = [self._row_times(part, factor) for factor in self._factors]
        else:
            ones, twos = self._parts.get(part >> width), self._parts.get(part & row)
            if ones is None:
                ones = self._filled(part >> width)
            if twos is None:
                twos = self._filled(part & row)
            laters = [one << width | two for one, two in zip(ones, twos)]
        self._parts[part] = laters
        return laters

    def _row_times(self, row, factor):
        """What comes of a row by a generator behind it, which is told by its rows."""
        signs = self._signs
        least = 0
        for later in factor:
            least = least | (row & 7) * signs & later
            row = row >> 3
        return least


def _many_different(squares):
    """How many different rows some squares have."""
    return len(set([row for rows in squares for row in rows]))
