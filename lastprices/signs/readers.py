"""What can be made of a pattern: its text, the number of its letters, its square, and its costs."""

from lastprices.base.ways import row_after
from lastprices.errors import Unstable
from lastprices.signs.powers import power_of, product_rows, unit_rows
from lastprices.signs.products import Factor, diagonal, is_stable_square, repeat_of
from lastprices.signs.squares import letter_rows


class TextReader:
    """Makes the text of a pattern at a number."""

    def __init__(self, number):
        self._number = number

    def begun(self):
        """The text of nothing."""
        return ""

    def with_run(self, done, run):
        """The text with some letters behind it."""
        return done + run

    def with_part(self, done, part, _):
        """The text with a repeated part behind it."""
        return done + part * self._number


class LengthReader:
    """Makes the number of the letters of a pattern at a number."""

    def __init__(self, number):
        self._number = number

    def begun(self):
        """The length of nothing."""
        return 0

    def with_run(self, done, run):
        """The length with some letters behind it."""
        return done + len(run)

    def with_part(self, done, part, _):
        """The length with a repeated part behind it."""
        return done + part * self._number


class SquareReader:
    """Makes the rows of the square of a pattern, if the pattern is stable."""

    def __init__(self, machine, alphabet):
        self._many = len(machine)
        self._letters = {letter: Factor(letter_rows(machine, letter)) for letter in alphabet}
        self._repeats = {}

    def begun(self):
        """The rows that change none in a product."""
        return diagonal("0" * self._many)

    def with_run(self, done, run):
        """The rows with some letters behind them."""
        for letter in run:
            done = self._letters[letter].behind(done)
        return done

    def with_part(self, done, part, text):
        """The rows with a repeated part behind them."""
        # The same part can stand in a pattern many times.
        if text not in self._repeats:
            if not is_stable_square(part):
                raise Unstable(text)
            self._repeats[text] = Factor(repeat_of(part))
        return self._repeats[text].behind(done)


class CostsReader:
    """Makes the rows of the costs of a pattern at a number."""

    def __init__(self, machine, number):
        self._machine = machine
        self._unit = unit_rows(len(machine))
        self._number = number
        self._powers = {}

    def begun(self):
        """The rows that change none in a product."""
        return self._unit

    def with_run(self, done, run):
        """The rows with some letters behind them."""
        if len(run) > len(done):
            return product_rows(done, self._machine.track().ends_along(self._unit, run))
        for letter in run:
            moves = self._machine.moves(letter)
            done = [row_after(moves, row) for row in done]
        return tuple(done)

    def with_part(self, done, part, text):
        """The rows with a repeated part behind them."""
        # The same part can stand in a pattern many times, and a power takes far longer than a product.
        if text not in self._powers:
            self._powers[text] = power_of(part, self._number)
        return product_rows(done, self._powers[text])
