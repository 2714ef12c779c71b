"""Rows as integers, and where letters lead from them.

The code of a row has a field for each state, that of the first state highest, of two bits more than the cap. For a
price p the bits from p on are set in the field, counted from its lowest one, and for -1 none. So the field of the least
of several prices is the `or` of their fields, and where letters lead from a row is the `or` of where they lead from its
parts. There are three parts, each of some states beside each other. Parts come again far more often than rows.
"""

from lastprices.base.ways import numbers_of
from lastprices.base.words import is_integer

# Fewer rows than that are brought in order one by one.
FEW = 40


class Codes:
    """The codes of the rows of one machine, or of the pairs of rows of two machines, capped."""

    def __init__(self, machines, cap):
        self.most = cap
        letters = [letter for machine in machines for letter in machine.letters]
        self.alphabet = tuple(sorted(set(letters)))
        self._width = cap + 2
        self._field = (1 << self._width) - 1
        self._many = sum([len(machine) for machine in machines])
        # How many bits stand below the field of each state.
        self._places = [below * self._width for below in reversed(range(self._many))]
        self._leaving = [[] for _ in range(self._many)]
        self._lasts = []
        self.first_code = 0
        begin = 0
        for machine in machines:
            self._fill(machine, begin)
            begin += len(machine)
        # By codes of which all is -1 but one field, or one part: the lists of the codes to which the letters lead.
        self._singles = {}
        nowhere = [0] * len(self.alphabet)
        self.thirds = ({0: nowhere}, {0: nowhere}, {0: nowhere})

    def _fill(self, machine, begin):
        """Keeps the arcs and ends of a machine, whose states stand behind so many others."""
        places = self._places[begin:begin + len(machine)]
        for at, letter in enumerate(self.alphabet):
            for state, later, price in machine.moves(letter):
                self._leaving[begin + state].append((at, places[later], price))
        for state in numbers_of(machine, machine.firsts):
            self.first_code |= self._field << places[state]
        self._lasts.append([places[state] for state in numbers_of(machine, machine.lasts)])

    def _mask(self, begin, end):
        """The bits of all fields of the states from one number up to another one."""
        return (1 << (self._many - begin) * self._width) - (1 << (self._many - end) * self._width)

    def masks(self):
        """The triple of the bits of the three parts."""
        one = self._many // 3
        two = (self._many - one) // 2 + one
        return self._mask(0, one), self._mask(one, two), self._mask(two, self._many)

    def filled(self, part, code):
        """The list of the codes to which the letters lead from a code of which all but one part is -1, kept there."""
        # Such a part is a single state.
        if self._many <= 3:
            part[code] = self._single(code)
            return part[code]
        laters = None
        rest = code
        while rest > 0:
            below = ((rest & -rest).bit_length() - 1) // self._width
            field = rest & self._field << below * self._width
            rest = rest ^ field
            if field not in self._singles:
                self._singles[field] = self._single(field)
            if laters is None:
                laters = self._singles[field]
            else:
                laters = [one | two for one, two in zip(laters, self._singles[field])]
        part[code] = laters
        return laters

    def _single(self, code):
        """The list of the codes to which the letters lead from a code of which all but one field is -1."""
        below, price = divmod((code & -code).bit_length() - 1, self._width)
        laters = [0] * len(self.alphabet)
        top = self.most + 1
        for at, place, cost in self._leaving[self._many - 1 - below]:
            least = price + cost if price + cost < top else top
            laters[at] |= self._field >> least << least + place
        return laters

    def laters(self, code):
        """The list of the codes to which the letters lead from a code."""
        laters = [0] * len(self.alphabet)
        for part, mask in zip(self.thirds, self.masks()):
            found = part.get(code & mask)
            if found is None:
                found = self.filled(part, code & mask)
            laters = [one | two for one, two in zip(laters, found)]
        return laters

    def code_of(self, value):
        """The code of a row, None if the value is none."""
        if not isinstance(value, tuple) or len(value) != self._many:
            return None
        code = 0
        for price in value:
            # True is no 1 here.
            if not is_integer(price) or price < -1 or price > self.most + 1:
                return None
            code = code << self._width
            if price >= 0:
                code = code | self._field ^ ((1 << price) - 1)
        return code

    def row_from(self, code):
        """The row of a code."""
        fields = [code >> place & self._field for place in self._places]
        # Of no bits the lowest one is at -1.
        return tuple([(field & -field).bit_length() - 1 for field in fields])

    def price_of(self, code, number=0):
        """The least price at a last state of a machine, by its number, -1 if there is none."""
        field = 0
        for place in self._lasts[number]:
            field = field | code >> place
        field = field & self._field
        return (field & -field).bit_length() - 1

    def wrong_ones(self, codes):
        """The list of those of some codes whose price is greater than the cap."""
        tops = sum([1 << place + self.most + 1 for place in self._lasts[0]])
        lower = sum([(self._field >> 1) << place for place in self._lasts[0]])
        return [code for code in codes if code & tops and not code & lower]

    def rows_of(self, codes):
        """The ascending tuple of the rows of different codes."""
        if len(codes) < FEW or self._many < 3:
            return tuple(sorted([self.row_from(code) for code in codes]))
        # Rows are put together of halves, which are fewer, and of which only the ranks of the second ones are sorted.
        split = (self._many + 1) // 2
        mask = self._mask(split, self._many)
        groups = {}
        for code in codes:
            low = code & mask
            groups.setdefault(code ^ low, []).append(low)
        tails = sorted([(self.row_from(low)[split:], low) for low in {code & mask: True for code in codes}])
        ranks = {low: rank for rank, (_, low) in enumerate(tails)}
        ends = [end for end, _ in tails]
        rows = []
        for head, high in sorted([(self.row_from(high)[:split], high) for high in groups]):
            rows.extend([head + ends[rank] for rank in sorted([ranks[low] for low in groups[high]])])
        return tuple(rows)
