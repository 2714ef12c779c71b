"""Rows as integers, and where letters lead from them.

The code of a row has a field for each state, that of the first state highest, of one bit more than the greatest number.
For a price p the bits from p on are set in the field, counted from its lowest one, and for -1 none. So the field of the
least of several prices is the `or` of their fields, and where letters lead from a row is the `or` of where they lead
from its parts. There are three parts, each of some states beside each other. Parts come again far more often than rows.
"""

from lastprices.base.masks import numbers_in
from lastprices.base.words import is_integer

# Fewer rows than that are brought in order one by one.
FEW = 40


class Codes:
    """The codes of the rows of one machine, or of the pairs of rows of two machines, capped."""

    def __init__(self, machines, cap, every=False):
        self.most = cap
        # Whether any price was greater than the cap on the way to a code.
        self.is_short = False
        # The greatest number: where no arc costs anything, texts lead to no other than 0, though there are other rows.
        self._top = cap + 1 if every else 0
        letters = [machine.letters for machine in machines]
        self.alphabet = letters[0] if len(letters) == 1 else tuple(sorted(set([*letters[0], *letters[1]])))
        # By the numbers of states: the arcs that lead from them.
        self._leaving = []
        for machine in machines:
            self._fill(machine)
        self._many = len(self._leaving)
        self._width = self._top + 1
        self._field = (1 << self._width) - 1
        # How many bits stand below the field of each state.
        self._places = list(range((self._many - 1) * self._width, -1, -self._width))
        self.first_code = 0
        # By the numbers of machines: the places of their last states.
        self._lasts = []
        begin = 0
        for machine in machines:
            for state in machine.first_numbers():
                self.first_code |= self._field << self._places[begin + state]
            self._lasts.append([self._places[begin + state] for state in machine.last_numbers()])
            begin += len(machine)
        # By codes of which all is -1 but one field, or one part: the lists of the codes to which the letters lead.
        self._singles = {}
        nowhere = [0] * len(self.alphabet)
        self.thirds = ({0: nowhere}, {0: nowhere}, {0: nowhere})
        # The bits of the three parts.
        high = 1 << self._many * self._width
        middle = 1 << (self._many - self._many // 3) * self._width
        low = 1 << (self._many + 2) // 3 * self._width
        self.masks = (high - middle, middle - low, low - 1)

    def _fill(self, machine):
        """Keeps the arcs of a machine, whose states stand behind those that are there."""
        begin = len(self._leaving)
        self._leaving.extend([[] for _ in range(len(machine))])
        for at, letter in enumerate(list(self.alphabet)):
            for state, later, price in list(machine.moves(letter)):
                self._leaving[begin + state].append((at, begin + later, price))
                if price > 0:
                    self._top = self.most + 1

    def filled(self, part, code):
        """The list of the codes to which the letters lead from a code of which all but one part is -1, kept there."""
        # Such a part is a single state.
        if self._many <= 3:
            laters = self._single(code)
            part[code] = laters
            return laters
        laters = None
        rest = code
        while rest > 0:
            below = ((rest & -rest).bit_length() - 1) // self._width
            field = rest & self._field << below * self._width
            rest = rest ^ field
            if field not in self._singles:
                self._singles[field] = self._single(field)
            if laters is None:
                laters = self._singles[field]
            else:
                laters = [one | two for one, two in zip(laters, self._singles[field])]
        part[code] = laters
        return laters

    def _single(self, code):
        """The list of the codes to which the letters lead from a code of which all but one field is -1."""
        below, price = divmod((code & -code).bit_length() - 1, self._width)
        laters = [0] * len(self.alphabet)
        top = self._top
        for at, later, cost in self._leaving[self._many - 1 - below]:
            least = price + cost
            if least > self.most:
                least = top
                self.is_short = True
            laters[at] = laters[at] | self._field >> least << least + self._places[later]
        return laters

    def laters(self, code):
        """The list of the codes to which the letters lead from a code."""
        laters = [0] * len(self.alphabet)
        for part, mask in zip(self.thirds, self.masks):
            found = part.get(code & mask)
            if found is None:
                found = self.filled(part, code & mask)
            laters = [one | two for one, two in zip(laters, found)]
        return laters

    def code_of(self, value):
        """The code of a row, None if the value is none, or has greater numbers than are told here."""
        if not isinstance(value, tuple) or len(value) != self._many:
            return None
        code = 0
        for price in value:
            # True is no 1 here.
            if not is_integer(price) or price < -1 or price > self._top:
                return None
            code = code << self._width
            if price >= 0:
                code = code | self._field ^ ((1 << price) - 1)
        return code

    def row_from(self, code):
        """The row of a code."""
        fields = [code >> place & self._field for place in self._places]
        # Of no bits the lowest one is at -1.
        return tuple([(field & -field).bit_length() - 1 for field in fields])

    def leaving(self):
        """The bits of the states from which arcs lead, -1 if they lead from all of them."""
        if [] not in self._leaving:
            return -1
        return sum([self._field << place for place, arcs in zip(self._places, self._leaving) if arcs])

    def is_free(self):
        """Whether nothing costs anything, so that a code has one bit for each state."""
        return self._top == 0

    def singles(self):
        """By letters: where they lead from each single bit, lowest bits first; where nothing costs anything."""
        ends = [self._single(1 << number) for number in range(self._many)]
        return [[laters[at] for laters in ends] for at in range(len(self.alphabet))]

    def fields(self):
        """The lowest bits of all fields, and the highest ones."""
        lows = sum([1 << place for place in self._places])
        return lows, lows << self._top

    def prices_at(self, codes, number=0):
        """The list of the least prices of some codes at a last state of a machine, -1 where there is none."""
        whole = self._field
        fields = [0] * len(codes)
        for place in self._lasts[number]:
            fields = [field | code >> place & whole for field, code in zip(fields, codes)]
        # Of no bits the lowest one is at -1.
        return [(field & -field).bit_length() - 1 for field in fields]

    def price_of(self, code, number=0):
        """The least price at a last state of a machine, by its number, -1 if there is none."""
        field = 0
        for place in self._lasts[number]:
            field = field | code >> place
        field = field & self._field
        return (field & -field).bit_length() - 1

    def wrong_ones(self, codes):
        """A dict of those of some codes whose price is greater than the cap."""
        if self._top <= self.most:
            return {}
        tops = 0
        lower = 0
        for place in self._lasts[0]:
            tops |= 1 << place + self._top
            lower |= self._field >> 1 << place
        return {code: True for code in codes if code & tops and not code & lower}

    def rows_of(self, codes):
        """The ascending tuple of the rows of the codes in a dict."""
        if len(codes) < FEW or self._many < 3:
            return tuple(sorted([self.row_from(code) for code in codes]))
        # Rows are put together of halves, which are fewer.
        split = (self._many + 1) // 2
        lows = (1 << (self._many - split) * self._width) - 1
        highs = (1 << self._many * self._width) - 1 - lows
        heads = self._half_rows(sorted(set([code & highs for code in codes])), self._places[:split])
        tails = self._half_rows(sorted(set([code & lows for code in codes])), self._places[split:])
        ends = [tail for tail, _ in tails]
        if len(heads) * len(tails) == len(codes):
            return tuple([head + tail for head, _ in heads for tail in ends])
        if len(heads) * len(tails) <= 2 * len(codes):
            return tuple([head + tail for head, high in heads for tail, low in tails if high | low in codes])
        # Where most halves do not stand beside each other, the second ones are sorted by their ranks.
        groups = {high: [] for _, high in heads}
        ranks = {low: rank for rank, (_, low) in enumerate(tails)}
        for code in codes:
            low = code & lows
            groups[code ^ low].append(ranks[low])
        return tuple([head + ends[rank] for head, high in heads for rank in sorted(groups[high])])

    def rows_in(self, blocks):
        """The ascending tuple of the rows of the codes in blocks."""
        width, masks = blocks.tail_bits, blocks.masks
        split = self._many - width
        heads = self._half_rows([head << width for head in masks], self._places[:split])
        tails = self._half_rows(list(range(1 << width)), self._places[split:])
        ends = {mask: [] for mask in masks.values()}
        for mask in list(ends):
            ends[mask] = [tails[number][0] for number in numbers_in(mask)]
        return tuple([head + tail for head, code in heads for tail in ends[masks[code >> width]]])

    def _half_rows(self, halves, places):
        """The list of the pairs of a half of a row and of its code, ascending, by the places of its states."""
        whole = self._field
        found = []
        for half in halves:
            fields = [half >> place & whole for place in places]
            found.append((tuple([(field & -field).bit_length() - 1 for field in fields]), half))
        return sorted(found)
