"""Webs: all squares that the letters of a machine make."""

from lastprices.base.checks import check_machine
from lastprices.errors import InvalidOperation, TooMany
from lastprices.signs.closure import Closure
from lastprices.signs.compact import Compact
from lastprices.signs.shortest import Shortest
from lastprices.signs.squares import Square, is_square, letter_rows

MAX_SQUARES = 3000

# Where growing squares are only asked for, those of machines with so few states are found in another way.
FEW_STATES = 6


def is_web_of(machine, value):
    """Whether the value is the tuple of the rows of just the squares of the web of a machine, ascending."""
    check_machine(machine)
    if not isinstance(value, tuple) or not all([is_square(rows) for rows in value]):
        return False
    # A web with more squares than the value has is not looked at any further.
    closure = Closure(machine, len(value))
    return closure.is_whole() and value == in_order(closure.origins)


def whole_closure(machine):
    """The closure of a machine: TooMany if a web can have no so many squares."""
    closure = Closure(machine, MAX_SQUARES)
    if not closure.is_whole():
        raise TooMany(MAX_SQUARES)
    return closure


def has_growing_square(machine):
    """Whether the web of a machine has a growing square: TooMany if a web can have no so many squares."""
    found = machine.remembered("growing")
    if found is None:
        if len(machine) <= FEW_STATES:
            compact = Compact(machine, MAX_SQUARES)
            if not compact.is_whole():
                raise TooMany(MAX_SQUARES)
            found = compact.has_growing(machine)
        else:
            found = len(growing_ones(machine, whole_closure(machine).origins)) > 0
        machine.remember("growing", found)
    return found


def in_order(squares):
    """The ascending tuple of the rows of some different squares."""
    # Strings of all rows have the same order, and are sorted faster.
    plain = {"".join(rows): rows for rows in squares}
    return tuple([plain[text] for text in sorted(plain)])


def growing_ones(machine, squares):
    """The tuple of those of some squares whose least sign from a first to a last state of a machine is `n`."""
    places = [(first, last) for first in machine.first_numbers() for last in machine.last_numbers()]
    growing = []
    for rows in squares:
        signs = "".join([rows[first][last] for first, last in places])
        if "n" in signs and "0" not in signs and "1" not in signs:
            growing.append(rows)
    return tuple(growing)


class Web:
    """The web of a machine, which never changes."""

    def __init__(self, machine):
        check_machine(machine)
        closure = whole_closure(machine)
        self._machine = machine
        self._closure = closure
        # The texts of shortest patterns, which are looked for only where other ones are too long.
        self._shortest = None
        self._squares = in_order(closure.origins)
        self._stable = in_order(closure.steady)
        self._growing = growing_ones(machine, self._squares)
        self._letters = {letter: letter_rows(machine, letter) for letter in machine.letters}

    @property
    def machine(self):
        """The machine."""
        return self._machine

    @property
    def squares(self):
        """The ascending tuple of the rows of all squares."""
        return self._squares

    @property
    def stable(self):
        """The ascending tuple of the rows of the stable squares."""
        return self._stable

    @property
    def growing(self):
        """The ascending tuple of the rows of the squares whose least sign from a first to a last state is `n`."""
        return self._growing

    @property
    def letters(self):
        """A dict from the letters of the machine to the rows of their squares."""
        return {letter: self._letters[letter] for letter in self._letters}

    def pattern_of(self, rows):
        """The text of any pattern that is stable in the machine and has this square."""
        if not is_square(rows) or rows not in self._closure.origins:
            raise InvalidOperation("these are not the rows of a square of the web")
        text = self._closure.text_of(rows)
        if text is None:
            if self._shortest is None:
                self._shortest = Shortest(self._machine).patterns()
            text = self._shortest[rows]
        return text

    def __contains__(self, x):
        rows = x.rows if isinstance(x, Square) else x
        return is_square(rows) and rows in self._closure.origins

    def __len__(self):
        return len(self._squares)

    def __iter__(self):
        return iter(self._squares)

    def __eq__(self, other):
        if not isinstance(other, Web):
            return False
        return self._machine == other._machine

    def __str__(self):
        return f"web of {len(self._squares)} squares, {len(self._growing)} growing"
