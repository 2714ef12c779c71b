"""The rows to which the texts with just so many letters lead, for one number of letters after the other.

Rows have numbers here, in the order of the first ones of the shortest texts that lead to them. They are capped, or they
have no cap and are lowered: the least price of such a row is 0, and what was subtracted from it is its fall.
"""

from lastprices.base.masks import ones_in
from lastprices.errors import TooMany
from lastprices.rows.codes import Codes
from lastprices.rows.spread import MAX_TABLE

# It is not asked whether longer layers come again.
SHORT = 60


class Layers:
    """The rows of a machine that were reached as yet, and where letters lead from them."""

    def __init__(self, machine, cap, is_lowered=False):
        self._machine = machine
        self._is_lowered = is_lowered
        # By letters, then by the numbers of rows: the numbers of the rows to which they lead, and the falls.
        self.leads = [[] for _ in machine.letters]
        self.falls = [[] for _ in machine.letters]
        self.top_fall = 0
        self._take(Codes([machine], cap), [])
        # From so many of the first rows it is known where letters lead.
        self._known = 0
        # By numbers of letters: how many rows are reached with so many or fewer.
        self.ends = [1]
        # Whether some letter leads from the first row to itself: then all rows are reached again with one more letter.
        self.is_steady = False
        # If not, by numbers of letters: the lists of the numbers of rows; and after how many letters these come again.
        self.lists = [[0]]
        self._places = {(0,): 0}
        self._period = 0
        # By the rows behind so many letters: what was spent, a bit for each number; as far as this was needed.
        self._masks = [1]
        self._masked = 0

    def _take(self, codes, rows):
        """Has other codes, with some rows that are known."""
        self.codes = codes
        self._lows, self._highs = codes.fields() if self._is_lowered else (-1, 0)
        # By the numbers of rows: their codes; and the other way round.
        self.row_codes = [codes.first_code, *[codes.code_of(row) for row in rows[1:]]]
        self._numbers = {code: number for number, code in enumerate(self.row_codes)}

    def grow_to(self, length):
        """Finds the rows behind up to so many letters: TooMany if texts of one such length lead to too many rows.

        Without a cap, rows count for each number that was spent on the way to them.
        """
        while len(self.ends) <= length:
            if self._known == len(self.row_codes) and self._is_repeated_to(length):
                return
            self._grow()
            many = self.ends[-1] if self.is_steady else len(self.lists[-1])
            if self._masked > 0 or are_too_many(many * (self.top_fall * (len(self.ends) - 1) + 1)):
                self._check(len(self.ends) - 1)

    def is_closed_within(self, most):
        """Whether there are at most so many rows in all; if so, it is known where letters lead from them."""
        while len(self.row_codes) <= most:
            if self._known == len(self.row_codes):
                return True
            self._grow()
        return False

    def _is_repeated_to(self, length):
        """Whether all layers up to so many letters come from those that are there, and are told now."""
        if are_too_many(len(self.row_codes) * (self.top_fall * length + 1)):
            return False
        if not self.is_steady and self._period == 0:
            return False
        for _ in range(length + 1 - len(self.ends)):
            self.ends.append(self._known)
            if not self.is_steady:
                self.lists.append(self.lists[-self._period])
        return True

    def _grow(self):
        """Finds the rows behind one more letter."""
        known, many = self._known, len(self.row_codes)
        self._follow(self.ends[-1], many + MAX_TABLE)
        while self._is_lowered and self.codes.is_short:
            self._widen(known, many)
            self._follow(self.ends[-1], many + MAX_TABLE)
        if known == 0:
            self.is_steady = 0 in [laters[0] for laters in self.leads]
        if not self.is_steady:
            self._list_next(self.lists[-1])
        self.ends.append(len(self.row_codes))

    def _list_next(self, last):
        """Lists the numbers of the rows behind one more letter."""
        rows = list({laters[row]: True for laters in self.leads for row in last})
        if len(rows) <= SHORT:
            place = tuple(rows)
            self._period = len(self.lists) - self._places.setdefault(place, len(self.lists))
        self.lists.append(rows)

    def _follow(self, end, limit):
        """Finds where letters lead from the rows with numbers below an end: TooMany if there are more than a limit."""
        rows, numbers, starts = self.row_codes, self._numbers, self._lows
        high, middle, low = self.codes.masks
        highs, middles, lows = self.codes.thirds
        letters = list(range(len(self.leads)))
        for row in range(self._known, end):
            code = rows[row]
            ones, twos, threes = highs.get(code & high), middles.get(code & middle), lows.get(code & low)
            if ones is None:
                ones = self.codes.filled(highs, code & high)
            if twos is None:
                twos = self.codes.filled(middles, code & middle)
            if threes is None:
                threes = self.codes.filled(lows, code & low)
            for at in letters:
                later = ones[at] | twos[at] | threes[at]
                fall = 0
                if not later & starts:
                    later, fall = self._lowered(later)
                number = numbers.get(later)
                if number is None:
                    number = len(rows)
                    numbers[later] = number
                    rows.append(later)
                self.leads[at].append(number)
                self.falls[at].append(fall)
            if len(rows) > limit:
                raise TooMany(MAX_TABLE)
        self._known = max(end, self._known)

    def _lowered(self, code):
        """The pair of the code of a lowered row and of its fall."""
        if code == 0:
            return 0, 0
        fall = 1
        while not code & self._lows << fall:
            fall += 1
        self.top_fall = max(self.top_fall, fall)
        # What comes into a field from above is set, unless all of it is empty.
        highs = code & self._highs
        return code >> fall | (highs << 1) - (highs >> fall - 1), fall

    def _widen(self, known, many):
        """Forgets what was found behind the last letter, and has codes with room for greater prices."""
        for laters, falls in list(zip(self.leads, self.falls)):
            del laters[known:]
            del falls[known:]
        self._known = known
        rows = [self.codes.row_from(code) for code in self.row_codes[:many]]
        self._take(Codes([self._machine], 4 * self.codes.most), rows)

    def _check(self, length):
        """TooMany if texts with just so many letters lead to too many rows."""
        check_rows(self.size_at(length))
        for at in range(self._masked, length):
            self._masks = self.masks_behind(self._masks, at)
            if are_too_many(sum([mask.bit_length() for mask in self._masks])):
                check_rows(sum([ones_in(mask) for mask in self._masks]))
        self._masked = length

    def masks_behind(self, masks, length):
        """The list of what was spent on the way to the rows behind one more letter, by that for those before it."""
        found = [0] * self.ends[length + 1] if self.is_steady else {row: 0 for row in self.lists[length + 1]}
        for laters, falls in list(zip(self.leads, self.falls)):
            for later, fall, mask in list(zip(self.told_of(laters, length), self.told_of(falls, length), masks)):
                found[later] = found[later] | mask << fall
        nowhere = self._numbers.get(0)
        if nowhere is not None and self.has(nowhere, length + 1):
            # Without any way it is the same row, whatever was spent.
            found[nowhere] = 1
        return found if self.is_steady else list(found.values())

    def size_at(self, length):
        """How many rows are reached with just so many letters."""
        return self.ends[length] if self.is_steady else len(self.lists[length])

    def has(self, row, length):
        """Whether the row with a number is reached with just so many letters."""
        return row < self.ends[length] if self.is_steady else row in self.lists[length]

    def told_of(self, values, length):
        """The list of those of some values, one for each row, that belong to rows behind so many letters."""
        return values[:self.ends[length]] if self.is_steady else [values[row] for row in self.lists[length]]

    def prices(self, length):
        """The list of the prices in the rows behind so many letters, -1 where there is none."""
        return self.codes.prices_at(self.told_of(self.row_codes, length))

    def nowhere(self):
        """The number of the row without any way, -1 if no text leads there."""
        return self._numbers.get(0, -1)


def are_too_many(many):
    """Whether there are more rows than a table can have."""
    return many > MAX_TABLE


def check_rows(many):
    """Raises TooMany if there are more rows than a table can have."""
    if are_too_many(many):
        raise TooMany(MAX_TABLE)
