"""The rows to which texts lead in a machine, kept so that the next text finds them.

All rows are lowered here so that their least price is 0: such rows come again soon in most machines, even where prices
grow. What was subtracted from a row is its fall.
"""

from lastprices.base.ways import least_of, row_after

# A machine that has read texts keeps no more rows than that.
MAX_NODES = 5000


class Node:
    """A lowered row, and where letters lead from it, as far as this is known."""

    def __init__(self, row, least):
        self.row = row
        # The least price at a last state, None if there is none.
        self.least = least
        # By letters: pairs of a node and of the fall to it.
        self.onward = {}


class Track:
    """The nodes of a machine that were found as yet, by its moves, its first row and the numbers of its last states."""

    def __init__(self, moves, start, lasts):
        self._moves = moves
        self._start = start
        self._lasts = lasts
        self._nodes = {}
        self._begin = self.lowered(start)[0]

    def begin(self):
        """The node of the empty text."""
        return self._begin

    def lowered(self, row):
        """The pair of the node of a row and of the fall to it."""
        fall = min([price for price in row if price >= 0], default=0)
        if fall > 0:
            row = tuple([price - fall if price >= 0 else -1 for price in row])
        if row not in self._nodes:
            self._nodes[row] = Node(row, least_of(row, self._lasts))
        return self._nodes[row], fall

    def later(self, node, letter):
        """The pair of the node to which a letter leads from a node and of the fall to it."""
        if letter not in node.onward:
            node.onward[letter] = self.lowered(row_after(self._moves.get(letter, ()), node.row))
        return node.onward[letter]

    def end_from(self, node, text):
        """The pair of the node to which a text leads from a node and of all falls on the way."""
        spent = 0
        for letter in text:
            step = node.onward.get(letter)
            if step is None:
                step = self.later(node, letter)
            node, fall = step
            spent += fall
        return node, spent

    def price_along(self, text):
        """The price of a text, None if it is not taken."""
        node, spent = self.end_from(self._begin, text)
        if len(self._nodes) > MAX_NODES:
            self._forget()
        return None if node.least is None else node.least + spent

    def ends_along(self, rows, text):
        """For each of some rows the one to which a text leads from it."""
        ends = []
        for row in rows:
            node, fall = self.lowered(row)
            node, spent = self.end_from(node, text)
            ends.append(_raised(node.row, fall + spent))
        if len(self._nodes) > MAX_NODES:
            self._forget()
        return ends

    def steps_along(self, text):
        """The list of the nodes behind none, one, .. and all letters of a text, each with the fall to it."""
        steps = [(self._begin, 0)]
        for letter in text:
            steps.append(self.later(steps[-1][0], letter))
        if len(self._nodes) > MAX_NODES:
            self._forget()
        return steps

    def _forget(self):
        """Begins anew, without what was found."""
        self._nodes = {}
        self._begin = self.lowered(self._start)[0]


def _raised(row, price):
    """A row with a price added to all of its prices."""
    if price == 0:
        return row
    return tuple([entry + price if entry >= 0 else -1 for entry in row])
