"""The rows to which the texts with just so many letters lead, for one number of letters after the other."""

from lastprices.errors import TooMany
from lastprices.rows.codes import Codes
from lastprices.rows.spread import MAX_TABLE


class CappedLayers:
    """The codes of the rows of a machine, capped, by numbers of letters."""

    def __init__(self, machine, cap):
        self.codes = Codes([machine], cap)
        # Most codes stand in many layers.
        self._known = {}

    def after(self, code):
        """The list of the codes to which the letters lead from a code."""
        laters = self._known.get(code)
        if laters is None:
            laters = self.codes.laters(code)
            self._known[code] = laters
        return laters

    def many_to(self, length):
        """A dict from the codes to which texts with so many letters lead to the numbers of these texts."""
        layer = {self.codes.first_code: 1}
        for _ in range(length):
            found = {}
            for code, many in list(layer.items()):
                for later in self.after(code):
                    found[later] = found.get(later, 0) + many
            check_rows(len(found))
            layer = found
        return layer

    def many_from(self, length, price):
        """For each number of letters, up to `length`, a dict from its codes to how many texts of a price go through it.

        These texts have `length` letters, and those of them are counted that go on in different ways from there.
        """
        layers = [[self.codes.first_code]]
        for _ in range(length):
            found = {later: True for code in layers[-1] for later in self.after(code)}
            check_rows(len(found))
            layers.append(list(found))
        ends = {code: 1 if self.codes.price_of(code) == price else 0 for code in layers[-1]}
        counts = [ends]
        for layer in layers[-2::-1]:
            behind = counts[-1]
            counts.append({code: sum([behind[later] for later in self.after(code)]) for code in layer})
        return counts[::-1]


class PlainLayers:
    """The nodes of the rows of a machine, without a cap, by numbers of letters."""

    def __init__(self, machine):
        self._letters = machine.letters
        self._track = machine.new_track()
        # From here no letter leads to any other row, whatever was spent before.
        self._nowhere = self._track.lowered((-1,) * len(machine))[0]

    def begin(self):
        """The node of the empty text."""
        return self._track.begin()

    def after(self, node):
        """The list of the pairs of a node and of a fall to which the letters lead from a node."""
        return [self._track.later(node, letter) for letter in self._letters]

    def spent_to(self, length):
        """A dict from the nodes of texts with so many letters to dicts from what was spent to how many texts spent it.

        Beside it stand the lists of the nodes for each number of letters, up to `length`.
        """
        layer = {self.begin(): {0: 1}}
        nodes = [list(layer)]
        for _ in range(length):
            found = {}
            for node, spent in list(layer.items()):
                for later, fall in self.after(node):
                    numbers = found.setdefault(later, {})
                    for price, many in spent.items():
                        price = price + fall if later != self._nowhere else 0
                        numbers[price] = numbers.get(price, 0) + many
            check_rows(sum([len(found[node]) for node in found]))
            layer = found
            nodes.append(list(found))
        return layer, nodes


def check_rows(many):
    """Raises TooMany if there are more rows than a table can have."""
    if many > MAX_TABLE:
        raise TooMany(MAX_TABLE)
