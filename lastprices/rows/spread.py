"""All codes of rows to which texts lead from some codes."""

from lastprices.errors import TooMany

MAX_TABLE = 20000

# In layers of fewer codes it is not asked which ones go on alike.
FEW = 100


class Spread:
    """The codes to which texts lead from some codes, in the order of the first ones of the shortest such texts."""

    def __init__(self, codes, starts):
        self.codes = codes
        # Behind each code the one before it on such a text, None for those at the start.
        self.befores = {code: None for code in starts}
        # Those to which no text leads that has fewer letters than as yet were followed.
        self.layer = list(self.befores)

    def grow(self):
        """Goes on with the codes behind one more letter: TooMany if more than a table can have are new."""
        self._grow(len(self.befores) + MAX_TABLE, 0)

    def grow_fully(self):
        """Goes on until there are no new codes: TooMany if there are more than a table can have."""
        self._grow(MAX_TABLE, MAX_TABLE)

    def grow_beyond(self, many):
        """Goes on until there are no new codes, or more than so many: TooMany as above."""
        self._grow(MAX_TABLE, many)

    def _grow(self, limit, enough):
        """Goes on until there are no new codes, or more than are enough: TooMany if there are more than a limit."""
        befores, layer = self.befores, self.layer
        high, middle, low = self.codes.masks
        highs, middles, lows = self.codes.thirds
        letters = list(range(len(self.codes.alphabet)))
        followed = set()
        while layer:
            found = []
            # Most layers are so small that they cannot come to the limit.
            near = len(befores) + len(layer) * len(letters) > limit
            # Codes that differ only in states from which no arcs lead go on alike, so the first one is enough.
            bits = self.codes.leaving() if len(layer) > FEW else -1
            for code in list(layer):
                if bits >= 0:
                    if code & bits in followed:
                        continue
                    followed.add(code & bits)
                ones, twos, threes = highs.get(code & high), middles.get(code & middle), lows.get(code & low)
                if ones is None:
                    ones = self.codes.filled(highs, code & high)
                if twos is None:
                    twos = self.codes.filled(middles, code & middle)
                if threes is None:
                    threes = self.codes.filled(lows, code & low)
                for at in letters:
                    later = ones[at] | twos[at] | threes[at]
                    if later not in befores:
                        befores[later] = code
                        found.append(later)
                if near and len(befores) > limit:
                    raise TooMany(MAX_TABLE)
            layer = found
            if len(befores) > enough:
                break
        self.layer = layer

    def text_to(self, code):
        """The first one of the shortest texts that lead to a code."""
        letters = []
        before = self.befores[code]
        while before is not None:
            letters.append(self.codes.alphabet[self.codes.laters(before).index(code)])
            code = before
            before = self.befores[code]
        return "".join(letters[::-1])
