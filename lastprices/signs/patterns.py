"""Patterns of texts, with repeated parts."""

from lastprices.base.checks import check_machine, check_positive
from lastprices.base.words import MAX_TEXT
from lastprices.errors import InvalidPattern, TooMany, Unstable
from lastprices.signs.costs import Costs, MadeRows
from lastprices.signs.grammar import depth_of, is_formed, letters_in, parts_of, read_pattern, weight_of
from lastprices.signs.readers import CostsReader, LengthReader, SquareReader, TextReader
from lastprices.signs.squares import Square

MAX_SIGNS = 20000
MAX_DEPTH = 24


def is_pattern(value):
    """Whether the value is the text of a pattern."""
    if not isinstance(value, str) or len(value) > MAX_SIGNS:
        return False
    return is_formed(value) and depth_of(value) <= MAX_DEPTH


class Pattern:
    """A pattern, which never changes."""

    def __init__(self, text):
        if not is_pattern(text):
            raise InvalidPattern("this is the text of no pattern")
        self._text = text
        self._parts = parts_of(text)
        self._plain = letters_in(text)
        self._letters = tuple(sorted(set(self._plain)))

    @property
    def text(self):
        """The text of the pattern itself."""
        return self._text

    @property
    def letters(self):
        """The ascending tuple of its letters."""
        return self._letters

    @property
    def depth(self):
        """The greatest number of parts that are nested."""
        return depth_of(self._text)

    @property
    def parts(self):
        """The tuple of the texts of its repeated parts, in the order in which their `#` stand."""
        return self._parts

    @property
    def weight(self):
        """The number of its letters, each counted twice for each part around it."""
        return weight_of(self._text)

    def length(self, n):
        """The number of the letters of its text at n."""
        check_positive(n)
        return read_pattern(self._text, self._parts, LengthReader(n))

    def square(self, machine):
        """The square of the pattern, if it is stable."""
        check_machine(machine)
        return Square(read_pattern(self._text, self._parts, SquareReader(machine, self._letters)))

    def is_growing(self, machine):
        """Whether the pattern is stable and growing in a machine."""
        try:
            square = self.square(machine)
        except Unstable:
            return False
        return square.between(machine) == "n"

    def costs(self, machine, n):
        """The costs of all ways along its text at n."""
        check_machine(machine)
        check_positive(n)
        rows = read_pattern(self._text, self._parts, CostsReader(machine, n))
        return Costs(MadeRows(rows))

    def repeated(self):
        """The pattern that is this one as a repeated part."""
        return Pattern(f"({self._text})#")

    def __call__(self, n):
        if self.length(n) > MAX_TEXT:
            raise TooMany(MAX_TEXT)
        return read_pattern(self._text, self._parts, TextReader(n))

    def __add__(self, other):
        if not isinstance(other, Pattern):
            return NotImplemented
        return Pattern(self._text + other._text)

    def __contains__(self, x):
        return x in self._letters

    def __len__(self):
        return len(self._plain)

    def __eq__(self, other):
        if not isinstance(other, Pattern):
            return False
        return self._text == other._text

    def __str__(self):
        return str(self._text)
