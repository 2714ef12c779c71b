"""Prices, runs and numbers of texts."""

from lastprices.base.checks import check_machine, check_number, check_text
from lastprices.base.ways import entering_of, least_of, numbers_of, rows_along, start_of
from lastprices.base.words import is_name
from lastprices.errors import InvalidOperation, NotTaken
from lastprices.read.subsets import bits_of, numbered_sets, useful_sets

MAX_LENGTH = 200


def price_of(machine, text):
    """The price of a text, None if it is not taken."""
    _check(machine, text)
    return machine(text)


def is_taken(machine, text):
    """Whether a text is taken."""
    _check(machine, text)
    return text in machine


def runs_of(machine, text):
    """The number of the runs of a text."""
    _check(machine, text)
    entering = entering_of(machine, text)
    sources = {letter: [tuple([number for number, _ in arcs]) for arcs in entering[letter]] for letter in entering}
    counts = [1 if state in machine.firsts else 0 for state in machine.states]
    for letter in text:
        counts = _counts_after(sources[letter], counts)
    return sum([counts[number] for number in numbers_of(machine, machine.lasts)])


def cheapest(machine, text):
    """Any run with the least price."""
    _check(machine, text)
    entering = entering_of(machine, text)
    rows = rows_along(entering, [start_of(machine)], text)[0]
    row = rows[-1][0]
    lasts = numbers_of(machine, machine.lasts)
    least = least_of(row, lasts)
    if least is None:
        raise NotTaken(text)
    ends = [number for number in lasts if row[number] == least]
    run = [ends[0]]
    for at in reversed(range(len(text))):
        later, fall = rows[at + 1]
        row = rows[at][0]
        price = later[run[-1]] + fall
        arcs = entering[text[at]][run[-1]]
        befores = [number for number, cost in arcs if row[number] >= 0 and row[number] + cost == price]
        run.append(befores[0])
    states = machine.states
    return tuple([states[number] for number in run[::-1]])


def is_cheapest(machine, text, value):
    """Whether the value is a run with the least price."""
    _check(machine, text)
    if not _is_way(machine, text, value):
        return False
    if value[0] not in machine.firsts or value[-1] not in machine.lasts:
        return False
    return _way_price(machine, text, value) == machine(text)


def run_price(machine, text, run):
    """The price of a way along a text, wherever it begins and ends."""
    _check(machine, text)
    if not _is_way(machine, text, run):
        raise InvalidOperation("this is no way along the text")
    return _way_price(machine, text, run)


def count_taken(machine, length):
    """The number of the taken texts with so many letters."""
    check_machine(machine)
    check_number(length, MAX_LENGTH)
    sets, afters = numbered_sets(machine)
    lasts = bits_of(machine, machine.lasts)
    # For each set the number of the texts, as yet without letters, that lead from it to a last state.
    counts = [1 if bits & lasts else 0 for bits in sets]
    for _ in range(length):
        counts = [sum([counts[after] for after in laters]) for laters in afters]
    return counts[0]


def each_taken(machine, length):
    """A generator of the taken texts with so many letters, ascending."""
    check_machine(machine)
    check_number(length, MAX_LENGTH)
    sets, afters = numbered_sets(machine)
    useful = useful_sets(machine, length)
    # What is waiting stands in descending order, and the last one is taken first.
    waiting = [("", 0)]
    while waiting:
        text, at = waiting.pop()
        left = length - len(text)
        if sets[at] & useful[left]:
            if left == 0:
                yield text
            else:
                for letter, after in reversed(list(zip(machine.letters, afters[at]))):
                    waiting.append((text + letter, after))


def _check(machine, text):
    """Raises an error if one of both is none."""
    check_machine(machine)
    check_text(text)


def _counts_after(sources, counts):
    """For each state the number of ways to it behind one more letter, by the states before it."""
    # Many states can have the same ones before them, and the numbers can be long, so each sum is made once only.
    sums = {}
    for befores in sources:
        if befores not in sums:
            sums[befores] = sum([counts[number] for number in befores])
    return [sums[befores] for befores in sources]


def _is_way(machine, text, value):
    """Whether the value is a way along a text."""
    if not isinstance(value, tuple) or len(value) != len(text) + 1:
        return False
    # Judged before they are looked up, since not every value can be a key.
    if not all([is_name(state) for state in value]) or value[0] not in machine.states:
        return False
    arcs = machine.arcs
    return all([place in arcs for place in zip(value, text, value[1:])])


def _way_price(machine, text, way):
    """The price of a way along a text."""
    arcs = machine.arcs
    return sum([arcs[place] for place in zip(way, text, way[1:])])
