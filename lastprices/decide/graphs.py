"""The arcs through which runs go, and shortest ways in graphs.

A graph is a dict from nodes to lists of pairs of a next node and of what is read on the way there.
"""


def useful_arcs(machine):
    """The list of the arcs through which runs go: number of the state, letter, number of the next state, price."""
    useful = machine.remembered("useful")
    if useful is None:
        arcs = [(state, letter, later, price) for letter in machine.letters
            for state, later, price in machine.moves(letter)]
        ahead = reached_from(machine.first_numbers(), _graph_of([(arc[0], arc[2]) for arc in arcs]))
        behind = reached_from(machine.last_numbers(), _graph_of([(arc[2], arc[0]) for arc in arcs]))
        useful = [arc for arc in arcs if arc[0] in ahead and arc[2] in behind]
        machine.remember("useful", useful)
    return useful


def reached_from(starts, graph):
    """A dict of the nodes that are reached from some, nearest ones first, and how each was reached first.

    This is a pair of the node before it and of what is read from there, None for those at the start.
    """
    befores = {node: None for node in starts}
    waiting = list(befores)
    while waiting:
        found = []
        for node in list(waiting):
            for later, word in graph.get(node, []):
                if later not in befores:
                    befores[later] = (node, word)
                    found.append(later)
        waiting = found
    return befores


def read_to(befores, node):
    """The list of what is read on the way to a node that was reached, the last one first."""
    words = []
    before = befores[node]
    while before is not None:
        words.append(before[1])
        before = befores[before[0]]
    return words


def _graph_of(links):
    """The graph with some links, on which nothing is read."""
    graph = {}
    for node, later in links:
        graph.setdefault(node, []).append((later, ""))
    return graph
