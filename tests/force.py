"""What machines do, found by trying all runs, and small machines for it."""

import itertools
import random

from lastprices.base.machines import Machine
from tests.values import BLOCK, COUNT

NAMES = ("s", "t", "u")


def texts_up_to(letters, length):
    """All texts of some letters with at most so many of them, the shorter ones first, each length ascending."""
    return ["".join(told) for many in range(length + 1) for told in itertools.product(letters, repeat=many)]


def ways_along(machine, text):
    """A dict from all ways along a text to their prices."""
    arcs = machine.arcs
    ways = {(state,): 0 for state in machine.states}
    for letter in text:
        ways = {way + (later,): price + arcs[way[-1], letter, later] for way, price in ways.items()
            for later in machine.states if (way[-1], letter, later) in arcs}
    return ways


def runs_along(machine, text):
    """A dict from all runs along a text to their prices."""
    return {way: price for way, price in ways_along(machine, text).items()
        if way[0] in machine.firsts and way[-1] in machine.lasts}


def least_price(machine, text):
    """The price of a text, None if it is not taken."""
    return min(runs_along(machine, text).values(), default=None)


def some_machine(seed, most=9):
    """A small machine with two letters, another one for each seed, but the same one at all times."""
    told = random.Random(seed)
    names = NAMES[:told.randrange(1, 4)]
    arcs = {}
    for place in itertools.product(names, "ab", names):
        if told.randrange(2):
            arcs[place] = told.choice((0, 0, 1, told.randrange(most + 1)))
    firsts = tuple(name for name in names if told.randrange(2)) or names[:1]
    lasts = tuple(name for name in names if told.randrange(2)) or names[-1:]
    return Machine(firsts, lasts, arcs)


def some_machines(many, most=9):
    """The machines of the document's examples, and so many other small ones."""
    return [BLOCK, COUNT, *[some_machine(seed, most) for seed in range(many)]]


def rows_by_force(machine, cap):
    """The list of all rows to which texts lead, capped, by plain steps along all arcs."""
    arcs = machine.arcs
    rows = [tuple(0 if state in machine.firsts else -1 for state in machine.states)]
    seen = set(rows)
    for row in rows:
        for letter in machine.letters:
            later = tuple(min([min(row[at] + arcs[one, letter, other], cap + 1) for at, one in enumerate(machine.states)
                if row[at] >= 0 and (one, letter, other) in arcs], default=-1) for other in machine.states)
            if later not in seen:
                seen.add(later)
                rows.append(later)
    return rows


def drawn_machine(seed, many, letters="ab", most=9):
    """A machine with just so many states, another one for each seed, but the same one at all times."""
    told = random.Random(1000 * many + seed)
    names = "stuvw"[:many]
    # Arcs in a ring, so that no state is without any.
    arcs = {(names[at - 1], told.choice(letters), names[at]): told.choice((0, 1, told.randrange(most + 1)))
        for at in range(many)}
    for place in itertools.product(names, letters, names):
        if told.randrange(5) < 2:
            arcs[place] = told.choice((0, 0, 1, told.randrange(most + 1)))
    firsts = tuple(name for name in names if told.randrange(3) == 0) or (told.choice(names),)
    lasts = tuple(name for name in names if told.randrange(3) == 0) or (told.choice(names),)
    return Machine(firsts, lasts, arcs)


def drawn_machines(seeds, manys, letters="ab"):
    """So many machines for each of some numbers of states."""
    return [drawn_machine(seed, many, letters) for many in manys for seed in range(seeds)]
