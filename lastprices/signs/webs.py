"""Webs: all squares that the letters of a machine make."""

from lastprices.base.checks import check_machine
from lastprices.errors import InvalidOperation, TooMany
from lastprices.signs.closure import Closure
from lastprices.signs.places import entries_between
from lastprices.signs.products import is_stable_square
from lastprices.signs.squares import Square, is_square, least_sign, letter_rows

MAX_SQUARES = 3000


def is_growing_square(rows, machine):
    """Whether the least sign of a square from a first to a last state of a machine is `n`."""
    signs = entries_between(rows, machine)
    return least_sign(*signs) == "n"


def is_web_of(machine, value):
    """Whether the value is the tuple of the rows of just the squares of the web of a machine, ascending."""
    check_machine(machine)
    if not isinstance(value, tuple) or not all([is_square(rows) for rows in value]):
        return False
    # A web with more squares than the value has is not looked at any further.
    patterns = Closure(machine, len(value)).patterns()
    return patterns is not None and value == tuple(sorted(patterns))


class Web:
    """The web of a machine, which never changes."""

    def __init__(self, machine):
        check_machine(machine)
        patterns = Closure(machine, MAX_SQUARES).patterns()
        if patterns is None:
            raise TooMany(MAX_SQUARES)
        self._machine = machine
        self._patterns = patterns
        self._squares = tuple(sorted(patterns))
        self._stable = tuple([rows for rows in self._squares if is_stable_square(rows)])
        self._growing = tuple([rows for rows in self._squares if is_growing_square(rows, machine)])
        self._letters = {letter: letter_rows(machine, letter) for letter in machine.letters}

    @property
    def machine(self):
        """The machine."""
        return self._machine

    @property
    def squares(self):
        """The ascending tuple of the rows of all squares."""
        return self._squares

    @property
    def stable(self):
        """The ascending tuple of the rows of the stable squares."""
        return self._stable

    @property
    def growing(self):
        """The ascending tuple of the rows of the squares whose least sign from a first to a last state is `n`."""
        return self._growing

    @property
    def letters(self):
        """A dict from the letters of the machine to the rows of their squares."""
        return {letter: self._letters[letter] for letter in self._letters}

    def pattern_of(self, rows):
        """The text of any pattern that is stable in the machine and has this square."""
        if not is_square(rows) or rows not in self._patterns:
            raise InvalidOperation("these are not the rows of a square of the web")
        return self._patterns[rows]

    def __contains__(self, x):
        rows = x.rows if isinstance(x, Square) else x
        return is_square(rows) and rows in self._patterns

    def __len__(self):
        return len(self._squares)

    def __iter__(self):
        return iter(self._squares)

    def __eq__(self, other):
        if not isinstance(other, Web):
            return False
        return self._machine == other._machine

    def __str__(self):
        return f"web of {len(self._squares)} squares, {len(self._growing)} growing"
