"""The ends and arcs of machines that are made of others.

Each function returns a triple: first states, last states and arcs. What is called `machine`, `one` and `other` here is
read only, so that machines themselves can be built on these functions.
"""

from lastprices.base.words import LETTERS


def made_names(places, start):
    """A dict from some places, in their order, to the names of made states from the number `start` on."""
    names = {}
    for number, place in enumerate(places):
        names[place] = f"q{LETTERS[start + number]}"
    return names


def named_ends(states, names):
    """The ascending tuple of the names of some states."""
    return tuple(sorted([names[state] for state in states]))


def named_arcs(arcs, names):
    """A dict of arcs with other names of their states."""
    named = {}
    for state, letter, later in arcs:
        named[names[state], letter, names[later]] = arcs[state, letter, later]
    return named


def chosen(one, other):
    """What takes the texts of one or of both machines, for the less of both prices."""
    before = made_names(one.states, 0)
    behind = made_names(other.states, len(one.states))
    firsts = named_ends(one.firsts, before) + named_ends(other.firsts, behind)
    lasts = named_ends(one.lasts, before) + named_ends(other.lasts, behind)
    return firsts, lasts, _all_of([named_arcs(one.arcs, before), named_arcs(other.arcs, behind)])


def greatest_sum(one, other):
    """The greatest sum of the prices of two arcs with the same letter, 0 if there are none."""
    return max([_dearest(one, letter) + _dearest(other, letter) for letter in one.letters if letter in other.letters],
        default=0)


def summed(one, other):
    """What takes the texts of both machines, for the sum of both prices."""
    names = made_names([(state, twin) for state in one.states for twin in other.states], 0)
    firsts = named_ends([(state, twin) for state in one.firsts for twin in other.firsts], names)
    lasts = named_ends([(state, twin) for state in one.lasts for twin in other.lasts], names)
    beside = other.arcs
    arcs = {}
    for (state, letter, later), price in one.arcs.items():
        for twin, same, next_twin in beside:
            if same == letter:
                place = (names[state, twin], letter, names[later, next_twin])
                arcs[place] = price + beside[twin, same, next_twin]
    return firsts, lasts, arcs


def linked(one, other):
    """What takes each text of the first machine with one of the second machine behind it."""
    before = made_names(one.states, 0)
    behind = made_names(other.states, len(one.states))
    links = {}
    for (state, letter, later), price in other.arcs.items():
        if state in other.firsts:
            for last in one.lasts:
                place = (before[last], letter, behind[later])
                links[place] = min(price, links.get(place, price))
    lasts = named_ends(other.lasts, behind)
    if takes_nothing(other):
        lasts = named_ends(one.lasts, before) + lasts
    arcs = _all_of([named_arcs(one.arcs, before), named_arcs(other.arcs, behind), links])
    return named_ends(one.firsts, before), lasts, arcs


def takes_nothing(machine):
    """Whether a machine takes the empty text."""
    return any([state in machine.lasts for state in machine.firsts])


def backwards(machine):
    """What takes the reversed texts."""
    arcs = {}
    for (state, letter, later), price in machine.arcs.items():
        arcs[later, letter, state] = price
    return machine.lasts, machine.firsts, arcs


def _all_of(parts):
    """A dict of the arcs of several dicts that have no arc in common."""
    arcs = {}
    for part in parts:
        for place in part:
            arcs[place] = part[place]
    return arcs


def _dearest(machine, letter):
    """The greatest price of the arcs with a letter."""
    arcs = machine.arcs
    return max([arcs[place] for place in arcs if place[1] == letter])
