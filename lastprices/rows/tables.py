"""Rows of machines up to a cap, and the tables of all rows to which texts lead."""

from lastprices.base.checks import check_letter, check_machine, check_number, check_text
from lastprices.base.ways import least_of, row_after, start_of
from lastprices.base.words import is_integer
from lastprices.errors import InvalidOperation, InvalidRow, InvalidText
from lastprices.rows.blocks import Blocks
from lastprices.rows.codes import Codes
from lastprices.rows.spread import Spread

MAX_CAP = 200
MAX_TABLE = 20000

# With more rows than that it is tried to find them in blocks.
MANY = 1000


def is_row(machine, cap, value):
    """Whether the value has the form of a row of a machine, capped."""
    _check(machine, cap)
    return _is_formed(len(machine), cap, value)


def first_row(machine, cap):
    """The row of the empty text."""
    _check(machine, cap)
    return start_of(machine)


def next_row(machine, cap, row, letter):
    """The row to which a letter leads from a row."""
    _check_row(machine, cap, row)
    check_letter(letter)
    return _capped(row_after(machine.moves(letter), row), cap)


def row_of(machine, cap, text):
    """The row of a text."""
    _check(machine, cap)
    check_text(text)
    ends = machine.track().ends_along([start_of(machine)], text)
    return _capped(ends[0], cap)


def price_in(machine, cap, row):
    """The price in a row, one more than the cap if it is wrong, None if there is none."""
    _check_row(machine, cap, row)
    return least_of(row, machine.last_numbers())


class Table:
    """The rows of a machine, capped, to which texts of its letters lead; it never changes."""

    def __init__(self, machine, cap):
        _check(machine, cap)
        self._machine = machine
        self._cap = cap
        self._codes = Codes([machine], cap)
        self._spread = Spread(self._codes, [self._codes.first_code])
        # All codes in blocks, None where they were found one by one.
        self._blocks = self._found_blocks()
        if self._blocks is None:
            self._spread.grow_fully()
            self._rows = self._codes.rows_of(self._spread.befores)
            wrong = self._codes.wrong_ones(self._spread.befores)
            self._wrong = self._codes.rows_of(wrong) if wrong else ()
        else:
            self._rows = self._codes.rows_in(self._blocks)
            self._wrong = ()

    @property
    def machine(self):
        """The machine."""
        return self._machine

    @property
    def cap(self):
        """The number that the prices do not exceed by more than one."""
        return self._cap

    @property
    def rows(self):
        """The ascending tuple of all rows."""
        return self._rows

    @property
    def wrong(self):
        """The ascending tuple of the wrong rows."""
        return self._wrong

    @property
    def is_good(self):
        """Whether no row is wrong."""
        return len(self._wrong) == 0

    @property
    def start(self):
        """The first row."""
        return start_of(self._machine)

    def after(self, row, letter):
        """The row to which a letter leads from a row of the table."""
        code = self._codes.code_of(row)
        if not self._has(code):
            raise InvalidOperation("this is no row of the table")
        letters = self._machine.letters
        if letter not in letters:
            raise InvalidText("this is no letter of the machine")
        return self._codes.row_from(self._codes.laters(code)[letters.index(letter)])

    def text_to(self, row):
        """The first one of the shortest texts that lead to a row."""
        code = self._codes.code_of(row)
        if not self._has(code):
            raise InvalidOperation("this is no row of the table")
        # Blocks do not tell texts.
        self._spread.grow_fully()
        return self._spread.text_to(code)

    def _found_blocks(self):
        """The blocks of all codes, if there are many and they are found sooner so; None if not."""
        if not self._codes.is_free():
            return None
        self._spread.grow_beyond(MANY)
        if not self._spread.layer:
            return None
        blocks = Blocks(self._codes.singles())
        return blocks if blocks.fill(list(self._spread.befores), self._spread.layer) else None

    def _has(self, code):
        """Whether a code is that of a row of the table; None is none."""
        if self._blocks is None or code is None:
            return code in self._spread.befores
        return self._blocks.has(code)

    def __contains__(self, x):
        return self._has(self._codes.code_of(x))

    def __len__(self):
        return len(self._rows)

    def __iter__(self):
        return iter(self._rows)

    def __eq__(self, other):
        if not isinstance(other, Table):
            return False
        return self._machine == other._machine and self._cap == other._cap

    def __str__(self):
        return f"table of {len(self._rows)} rows up to {self._cap}, {len(self._wrong)} wrong"


def _check(machine, cap):
    """Raises an error if one of both is none."""
    check_machine(machine)
    check_number(cap, MAX_CAP)


def _check_row(machine, cap, row):
    """Raises an error if one of the three is none."""
    _check(machine, cap)
    if not _is_formed(len(machine), cap, row):
        raise InvalidRow("this is no row")


def _capped(row, cap):
    """A row with one more than the cap in the place of all greater prices."""
    return tuple([min(price, cap + 1) for price in row])


def _is_formed(many, cap, value):
    """Whether the value has the form of a row for so many states."""
    # Judged before it is looked up, too, as True is no 1 here.
    if not isinstance(value, tuple) or len(value) != many:
        return False
    return all([is_integer(price) and -1 <= price <= cap + 1 for price in value])
