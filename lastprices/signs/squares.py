"""Squares of signs."""

from lastprices.base.checks import check_machine, check_text
from lastprices.errors import InvalidOperation, InvalidSquare, InvalidText
from lastprices.signs.places import check_size, entries_between, entry_at, is_sized
from lastprices.signs.products import SIGNS, Factor, is_stable_square, product_of, repeat_of


def least_sign(*signs):
    """The least one of some signs."""
    return SIGNS[min(_ranks(signs))]


def greatest_sign(*signs):
    """The greatest one of some signs."""
    return SIGNS[max(_ranks(signs))]


def is_square(value):
    """Whether the value is the rows of a square."""
    return is_sized(value) and all([_is_of_signs(row) and len(row) == len(value) for row in value])


def letter_rows(machine, letter):
    """The rows of the square of a letter in a machine."""
    rows = [["."] * len(machine) for _ in range(len(machine))]
    for state, later, price in machine.moves(letter):
        rows[state][later] = sign_of(price)
    return tuple(["".join(row) for row in rows])


class Square:
    """A square, which never changes."""

    def __init__(self, rows):
        if not is_square(rows):
            raise InvalidSquare("these are not the rows of a square")
        self._rows = rows

    @classmethod
    def of_text(cls, machine, text):
        """The square of a text that is not empty."""
        check_machine(machine)
        check_text(text)
        if text == "":
            raise InvalidText("the empty text has no square")
        letters = {letter: letter_rows(machine, letter) for letter in sorted(set(text))}
        factors = {letter: Factor(letters[letter]) for letter in letters}
        rows = letters[text[0]]
        for letter in text[1:]:
            rows = factors[letter].behind(rows)
        return cls(rows)

    @property
    def rows(self):
        """The tuple of the rows, which are strings of signs."""
        return self._rows

    @property
    def is_stable(self):
        """Whether the product of the square with itself is the square."""
        return is_stable_square(self._rows)

    def repeated(self):
        """The repeat of the square."""
        if not self.is_stable:
            raise InvalidOperation("the square is not stable")
        return Square(repeat_of(self._rows))

    def between(self, machine):
        """The least sign from a first to a last state of a machine."""
        signs = entries_between(self._rows, machine)
        return least_sign(*signs)

    def __mul__(self, other):
        if not isinstance(other, Square):
            return NotImplemented
        check_size(len(other._rows), len(self._rows))
        return Square(product_of(self._rows, other._rows))

    def __getitem__(self, at):
        return entry_at(self._rows, at)

    def __iter__(self):
        raise TypeError("a square cannot be iterated over")

    def __len__(self):
        return len(self._rows)

    def __eq__(self, other):
        if not isinstance(other, Square):
            return False
        return self._rows == other._rows

    def __str__(self):
        return "/".join(self._rows)


def _ranks(signs):
    """The list of the numbers of some signs in their order."""
    if len(signs) == 0:
        raise InvalidOperation("there is no sign")
    if not all([_is_of_signs(sign) and len(sign) == 1 for sign in signs]):
        raise InvalidOperation("this is no sign")
    return [SIGNS.index(sign) for sign in signs]


def _is_of_signs(value):
    """Whether the value is a string of signs, or the empty one."""
    # Something is left at both ends exactly if there is another character.
    return isinstance(value, str) and value.strip(SIGNS) == ""


def sign_of(price):
    """The sign of a price, -1 being none."""
    if price < 0:
        return "."
    if price == 0:
        return "0"
    return "1"
