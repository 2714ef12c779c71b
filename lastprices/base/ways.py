"""Rows of prices: what the cheapest ways along texts cost.

A row has a number for each state of a machine, in ascending order: the price of the cheapest way to it, -1 if there
is none. What is called `machine` here is read only, so that machines themselves can be built on these functions.
"""


def numbers_of(machine, states):
    """The list of the numbers of some states in the order of all states of a machine."""
    return [number for number, state in enumerate(machine.states) if state in states]


def entering_of(machine, text):
    """A dict from the letters of a text to lists that have, for each state, the arcs to it with this letter.

    An arc is told as the pair of the number of the state from which it leads and of its price.
    """
    states = machine.states
    arcs = machine.arcs
    entering = {}
    for letter in sorted(set(text)):
        entering[letter] = [
            [(number, arcs[state, letter, later]) for number, state in enumerate(states)
                if (state, letter, later) in arcs]
            for later in states]
    return entering


def start_of(machine):
    """The row of the empty text."""
    return tuple([0 if state in machine.firsts else -1 for state in machine.states])


def row_after(entering, row):
    """The row behind one more letter, by the lists of arcs that enter the states with it."""
    return tuple([
        min([row[number] + price for number, price in arcs if row[number] >= 0], default=-1) for arcs in entering])


def rows_along(entering, starts, text):
    """For each of some rows the list of those behind none, one, .. and all letters of a text.

    They are told as pairs of a row that is lowered so that its least price is 0, and of the fall to it. Lowered rows
    come again soon in most machines, even where prices grow, and only new ones have to be computed.
    """
    seen = {}
    every = []
    for start in starts:
        rows = [(start, 0)]
        for letter in text:
            place = (letter, rows[-1][0])
            if place not in seen:
                seen[place] = _lowered(row_after(entering[letter], place[1]))
            rows.append(seen[place])
        every.append(rows)
    return every


def ends_along(entering, starts, text):
    """For each of some rows the one behind all letters of a text."""
    ends = []
    for rows in rows_along(entering, starts, text):
        spent = sum([fall for _, fall in rows])
        ends.append(tuple([price + spent if price >= 0 else -1 for price in rows[-1][0]]))
    return ends


def least_of(row, numbers):
    """The least price of a row at some states, None if there is none."""
    return min([row[number] for number in numbers if row[number] >= 0], default=None)


def price_along(machine, text):
    """The price of a text, None if it is not taken."""
    ends = ends_along(entering_of(machine, text), [start_of(machine)], text)
    return least_of(ends[0], numbers_of(machine, machine.lasts))


def _lowered(row):
    """The pair of a row whose least price is 0, and of what was subtracted for it."""
    fall = min([price for price in row if price >= 0], default=0)
    return tuple([price - fall if price >= 0 else -1 for price in row]), fall
