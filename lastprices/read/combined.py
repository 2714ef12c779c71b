"""Machines that are made of machines."""

from lastprices.base.checks import check_machine
from lastprices.base.machines import MadeArcs, Machine, check_states
from lastprices.base.making import made_names, named_arcs, named_ends
from lastprices.errors import InvalidOperation


def choice(one, other):
    """The machine that takes what one of both takes, for the less of both prices."""
    _check_both(one, other)
    return one | other


def both(one, other):
    """The machine that takes what both take, for the sum of both prices."""
    _check_both(one, other)
    return one + other


def joined(one, other):
    """The machine that takes each text of the first one with one of the second one behind it."""
    _check_both(one, other)
    return one * other


def turned(machine):
    """The machine that takes the reversed texts."""
    check_machine(machine)
    return ~machine


def free(machine):
    """The machine with the price 0 for all arcs."""
    check_machine(machine)
    return _with_price(machine, 0)


def stepped(machine):
    """The machine with the price 1 for all arcs."""
    check_machine(machine)
    return _with_price(machine, 1)


def pieces(machine):
    """The machine that takes what is put together of pieces; the price is the least number of pieces."""
    check_machine(machine)
    check_states(len(machine) + 1)
    new = made_names([""], 0)[""]
    names = made_names(machine.states, 1)
    firsts = named_ends(machine.firsts, names)
    lasts = named_ends(machine.lasts, names)
    arcs = {place: 0 for place in named_arcs(machine.arcs, names)}
    for state, letter, later in list(arcs):
        if state in firsts:
            arcs[new, letter, later] = 0
    # As yet no arc leads to the new state.
    for state, letter, later in list(arcs):
        if later in lasts:
            arcs[state, letter, new] = 1
    return Machine((new,), (new,), MadeArcs(arcs))


def trimmed(machine):
    """The machine without the states and arcs through which no run goes."""
    check_machine(machine)
    arcs = machine.arcs
    reached = _reached(machine.firsts, [(state, later) for state, _, later in arcs])
    ending = _reached(machine.lasts, [(later, state) for state, _, later in arcs])
    used = [state for state in machine.states if state in reached and state in ending]
    if len(used) == 0:
        raise InvalidOperation("no text is taken")
    firsts = tuple([state for state in machine.firsts if state in used])
    lasts = tuple([state for state in machine.lasts if state in used])
    kept = {place: arcs[place] for place in arcs if place[0] in used and place[2] in used}
    return Machine(firsts, lasts, MadeArcs(kept))


def _check_both(one, other):
    """Raises InvalidMachine if one of both is no machine."""
    check_machine(one)
    check_machine(other)


def _with_price(machine, price):
    """The machine with one price for all arcs."""
    return Machine(machine.firsts, machine.lasts, MadeArcs({place: price for place in machine.arcs}))


def _reached(starts, links):
    """A dict of the states that are reached from some, themselves too, along pairs of a state and a next one."""
    reached = {state: True for state in starts}
    waiting = list(starts)
    while waiting:
        state = waiting.pop()
        for before, later in links:
            if before == state and later not in reached:
                reached[later] = True
                waiting.append(later)
    return reached
