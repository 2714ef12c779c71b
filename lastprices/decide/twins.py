"""Texts with two runs.

A node is a triple of the numbers of two states, to which ways along the same text lead, and of whether these ways are
different. As long as they are not, both states are the same.
"""

from lastprices.base.ways import set_of
from lastprices.decide.graphs import useful_arcs


def shortest_twins(machine):
    """A triple of a text, as short as possible, and of two different runs along it, None if there is none."""
    twins = Twins(machine)
    end = twins.found()
    if end is None:
        return None
    text, one, other = twins.ways_to(end)
    states = machine.states
    one = tuple([states[number] for number in one])
    other = tuple([states[number] for number in other])
    return text, min(one, other), max(one, other)


class Twins:
    """The nodes that are reached in a machine, those with the shortest texts first."""

    def __init__(self, machine):
        self._firsts = machine.first_numbers()
        self._lasts = machine.last_numbers()
        # By letters and states: the lists of the next states, and their sets with a bit for each.
        self._laters = {}
        for state, letter, later, _ in list(useful_arcs(machine)):
            self._laters.setdefault((letter, state), []).append(later)
        self._sets = {place: set_of(self._laters[place]) for place in self._laters}
        self._letters = machine.letters
        self._befores = {}
        # For each first state of a node with different ways the set of the second ones that were reached.
        self._reached = [0 for _ in machine.states]
        self._found = []

    def found(self):
        """The first node with different ways to last states, None if there is none."""
        for state in self._firsts:
            self._add(state, 1 << state, False, None)
            self._add(state, sum([1 << other for other in self._firsts if other > state]), True, None)
        while self._found:
            ends = [node for node in self._found if node[2] and node[0] in self._lasts and node[1] in self._lasts]
            if ends:
                return ends[0]
            layer = self._found
            self._found = []
            for node in list(layer):
                for letter in self._letters:
                    self._follow(node, letter)
        return None

    def _follow(self, node, letter):
        """Adds the nodes to which a letter leads from a node."""
        one, other, different = node
        place = (letter, other)
        if place not in self._sets:
            return
        for later in self._laters.get((letter, one), []):
            if different:
                self._add(later, self._sets[place], True, (node, letter))
            else:
                self._add(later, 1 << later, False, (node, letter))
                # Of two states that part here, one order is enough.
                self._add(later, self._sets[place] >> later + 1 << later + 1, True, (node, letter))

    def _add(self, state, others, different, before):
        """Adds the nodes of a state with others, if they are new, and how they were reached."""
        if different:
            others = others & ~self._reached[state]
            self._reached[state] = self._reached[state] | others
        while others > 0:
            bit = others & -others
            others = others ^ bit
            node = (state, bit.bit_length() - 1, different)
            if node not in self._befores:
                self._befores[node] = before
                self._found.append(node)

    def ways_to(self, node):
        """The text that leads to a node, and the lists of the states on both ways."""
        letters = []
        one, other = [node[0]], [node[1]]
        before = self._befores[node]
        while before is not None:
            node, letter = before
            letters.append(letter)
            one.append(node[0])
            other.append(node[1])
            before = self._befores[node]
        return "".join(letters[::-1]), one[::-1], other[::-1]
