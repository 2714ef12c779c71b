"""Ways along texts: where they lead, and what the cheapest ones cost.

A row has a number for each state of a machine, in ascending order: the price of the cheapest way to it, -1 if there
is none. The arcs of a letter are told as moves, which are triples of the number of a state, that of the next state and
the price. What is called `machine` here is read only, so that machines themselves can be built on these functions.
"""

# Up to so many letters a text is read without keeping what is found on the way.
SHORT = 64


def numbers_of(states, some):
    """The tuple of the numbers of some states in the order of all of them."""
    return tuple([number for number, state in enumerate(states) if state in some])


def moves_of(states, arcs):
    """A dict from the letters of some arcs, ascending, to the tuples of their moves."""
    numbers = {state: number for number, state in enumerate(states)}
    moves = {}
    for (state, letter, later), price in arcs.items():
        moves.setdefault(letter, []).append((numbers[state], numbers[later], price))
    return {letter: tuple(moves[letter]) for letter in sorted(moves)}


def set_of(numbers):
    """The set of the states with some numbers: an integer with a bit for each of them."""
    return sum([1 << number for number in numbers])


def images_of(states, letters, arcs):
    """A dict from letters to the tuples of their images: pairs of the bit of a state and of the set after it."""
    bits = {state: 1 << number for number, state in enumerate(states)}
    sets = {}
    for state, letter, later in arcs:
        place = (letter, bits[state])
        sets[place] = sets.get(place, 0) | bits[later]
    return {letter: tuple([(pair[1], sets[pair]) for pair in sets if pair[0] == letter]) for letter in letters}


def set_after(images, bits):
    """The set to which a letter leads from a set, by its images."""
    after = 0
    for bit, image in images:
        if bits & bit:
            after = after | image
    return after


def set_along(images, bits, text):
    """The set to which a text leads from a set, by the images of all letters."""
    seen = {}
    for letter in text:
        if letter not in images:
            return 0
        if len(text) <= SHORT:
            bits = set_after(images[letter], bits)
        else:
            # The same sets come again soon in long texts.
            place = (letter, bits)
            if place not in seen:
                seen[place] = set_after(images[letter], bits)
            bits = seen[place]
    return bits


def start_of(machine):
    """The row of the empty text."""
    return tuple([0 if state in machine.firsts else -1 for state in machine.states])


def row_after(moves, row):
    """The row behind one more letter, by its moves."""
    prices = [-1] * len(row)
    for state, later, cost in moves:
        if row[state] >= 0:
            price = row[state] + cost
            if prices[later] < 0 or price < prices[later]:
                prices[later] = price
    return tuple(prices)


def least_of(row, numbers):
    """The least price of a row at some states, None if there is none."""
    return min([row[number] for number in numbers if row[number] >= 0], default=None)
