"""The squares of a web, and how they come about.

All squares are products of generators, which are the squares of letters and those repeats that are no products of the
generators that are there already. So each square is a generator, or it comes from another one by a generator behind it.
"""

from lastprices.signs.patterns import MAX_DEPTH, MAX_SIGNS
from lastprices.signs.products import is_stable_by_numbers, least_behind, masks_for, row_number, repeat_by_numbers
from lastprices.signs.products import written_row
from lastprices.signs.squares import letter_rows


class Closure:
    """The squares of the web of a machine, as long as there are no more of them than a limit."""

    def __init__(self, machine, limit):
        self._limit = limit
        # By the rows of all squares: those of the one before, None if there is none, and the number of the generator.
        self.origins = {}
        # The rows of those squares that are stable.
        self.steady = []
        # By the numbers of generators: a letter, or the rows of the square whose repeat it is; the numbers of its
        # rows; and what comes of all rows that are known when it is put behind them.
        self._sources = []
        self._factors = []
        self._tables = []
        # By their rows, all of squares that are known: their numbers; and the other way round.
        self._numbers = {}
        self._written = {}
        self._masks = masks_for(len(machine))
        # By the numbers of generators: the lengths, depths and texts of patterns, as far as they were needed.
        self._words = []
        self._find(machine)

    def is_whole(self):
        """Whether there are no more squares than the limit."""
        return len(self.origins) <= self._limit

    def _find(self, machine):
        """Finds all squares, or one more than the limit at least."""
        for letter in machine.letters:
            rows = letter_rows(machine, letter)
            if rows not in self.origins:
                self._add(rows, letter)
        self._follow(list(self.origins))
        squares = list(self.origins)
        at = 0
        while at < len(squares) and self.is_whole():
            repeat = self._new_repeat(squares[at])
            if repeat is not None:
                before = len(self.origins)
                self._add(repeat, squares[at])
                found = self._behind(squares, len(self._tables) - 1)
                self._follow([repeat, *found])
                squares.extend(list(self.origins)[before:])
            at += 1

    def _new_repeat(self, rows):
        """The repeat of a square, None if there is none, or if it is there already."""
        numbers = [self._numbers[row] for row in rows]
        if not is_stable_by_numbers(rows, numbers, self._masks):
            return None
        self.steady.append(rows)
        # Without this sign on the way from a state to itself the repeat is the square.
        if "1" not in [row[number] for number, row in enumerate(rows)]:
            return None
        repeat = repeat_by_numbers(rows, numbers)
        return None if repeat in self.origins else repeat

    def _add(self, rows, source):
        """Adds a generator."""
        number = len(self._sources)
        self.origins[rows] = (None, number)
        self._sources.append(source)
        self._meet([rows])
        numbers = [self._numbers[row] for row in rows]
        self._factors.append(numbers)
        self._tables.append({row: self._made_row(row, numbers) for row in self._numbers})

    def _follow(self, batch):
        """Adds what comes of some new squares by all generators behind them."""
        while batch and self.is_whole():
            found = []
            for number in range(len(self._tables)):
                if self.is_whole():
                    found.extend(self._behind(batch, number))
            batch = found

    def _behind(self, batch, number):
        """The list of the new squares that come of some squares by a generator behind them."""
        table = self._tables[number]
        origins = self.origins
        found = []
        for rows in batch:
            made = tuple([table[row] for row in rows])
            if made not in origins:
                origins[made] = (rows, number)
                found.append(made)
        self._meet(found)
        return found

    def _meet(self, squares):
        """Makes the rows of some squares known."""
        numbers = self._numbers
        for rows in squares:
            for row in rows:
                if row not in numbers:
                    numbers[row] = row_number(row)
                    self._written[numbers[row]] = row
                    for factor, table in list(zip(self._factors, self._tables)):
                        table[row] = self._made_row(row, factor)

    def _made_row(self, row, factor):
        """What comes of a row by a generator behind it, by the numbers of the rows of this."""
        least = least_behind(row, factor, self._masks)
        if least not in self._written:
            self._written[least] = written_row(least, len(row))
        return self._written[least]

    def text_of(self, rows):
        """The text of a pattern of a square, None if it is longer or deeper than those of patterns can be."""
        numbers = []
        while rows is not None:
            rows, number = self.origins[rows]
            numbers.append(number)
        while len(self._words) <= max(numbers):
            self._words.append(self._word(self._sources[len(self._words)]))
        words = [self._words[number] for number in numbers[::-1]]
        if sum([word[0] for word in words]) > MAX_SIGNS or max([word[1] for word in words]) > MAX_DEPTH:
            return None
        return "".join([word[2] for word in words])

    def _word(self, source):
        """The length, the depth and the text of a pattern of a generator; the text is empty if it is too long."""
        if isinstance(source, str):
            return 1, 0, source
        numbers = []
        rows = source
        while rows is not None:
            rows, number = self.origins[rows]
            numbers.append(number)
        # The squares on the way to it were there before it was, and so were their generators.
        words = [self._words[number] for number in numbers[::-1]]
        length = sum([word[0] for word in words]) + 3
        text = "".join([word[2] for word in words]) if length <= MAX_SIGNS else ""
        return length, max([word[1] for word in words]) + 1, f"({text})#"
