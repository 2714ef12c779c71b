"""Prices, runs and numbers of texts."""

from lastprices.base.checks import check_machine, check_number, check_text
from lastprices.base.ways import SHORT
from lastprices.errors import InvalidOperation, NotTaken
from lastprices.read.subsets import numbered_sets, useful_sets

MAX_LENGTH = 200


def price_of(machine, text):
    """The price of a text, None if it is not taken."""
    check_machine(machine)
    return machine(text)


def is_taken(machine, text):
    """Whether a text is taken."""
    check_machine(machine)
    return machine(text) is not None


def runs_of(machine, text):
    """The number of the runs of a text."""
    _check(machine, text)
    counts = [1 if state in machine.firsts else 0 for state in machine.states]
    if len(text) > SHORT:
        counts = _counts_along(machine, counts, text)
    else:
        for letter in text:
            later = [0] * len(counts)
            for before, after, _ in machine.moves(letter):
                later[after] = later[after] + counts[before]
            counts = later
    return sum([counts[number] for number in machine.last_numbers()])


def cheapest(machine, text):
    """Any run with the least price."""
    _check(machine, text)
    steps = machine.track().steps_along(text)
    end = steps[-1][0]
    if end.least is None:
        raise NotTaken(text)
    ends = [number for number in machine.last_numbers() if end.row[number] == end.least]
    run = [ends[0]]
    # By letters and states: the arcs that lead there.
    sources = {}
    for at in reversed(range(len(text))):
        later, fall = steps[at + 1]
        row = steps[at][0].row
        state = run[-1]
        price = later.row[state] + fall
        place = (text[at], state)
        if place not in sources:
            sources[place] = [(before, cost) for before, after, cost in machine.moves(text[at]) if after == state]
        befores = [before for before, cost in sources[place] if row[before] >= 0 and row[before] + cost == price]
        run.append(befores[0])
    states = machine.states
    return tuple([states[number] for number in run[::-1]])


def is_cheapest(machine, text, value):
    """Whether the value is a run with the least price."""
    _check(machine, text)
    return is_run(machine, text, value) and _way_price(machine, text, value) == machine(text)


def run_price(machine, text, run):
    """The price of a way along a text, wherever it begins and ends."""
    _check(machine, text)
    if not _is_way(machine, text, run):
        raise InvalidOperation("this is no way along the text")
    return _way_price(machine, text, run)


def count_taken(machine, length):
    """The number of the taken texts with so many letters."""
    check_machine(machine)
    check_number(length, MAX_LENGTH)
    sets, afters = numbered_sets(machine)
    lasts = machine.last_set()
    # For each set the number of the texts, as yet without letters, that lead from it to a last state.
    counts = [1 if bits & lasts else 0 for bits in sets]
    for _ in range(length):
        counts = [sum([counts[after] for after in laters]) for laters in afters]
    return counts[0]


def each_taken(machine, length):
    """A generator of the taken texts with so many letters, ascending."""
    check_machine(machine)
    check_number(length, MAX_LENGTH)
    sets, afters = numbered_sets(machine)
    useful = useful_sets(machine, length)
    # What is waiting stands in descending order, and the last one is taken first.
    waiting = [("", 0)]
    while waiting:
        text, at = waiting.pop()
        left = length - len(text)
        if sets[at] & useful[left]:
            if left == 0:
                yield text
            else:
                for letter, after in reversed(list(zip(machine.letters, afters[at]))):
                    waiting.append((text + letter, after))


def is_run(machine, text, value):
    """Whether the value is a run along a text."""
    return _is_way(machine, text, value) and value[0] in machine.firsts and value[-1] in machine.lasts


def _check(machine, text):
    """Raises an error if one of both is none."""
    check_machine(machine)
    check_text(text)


def _counts_along(machine, counts, text):
    """For each state the number of ways to it behind a long text, by the numbers ahead of it."""
    sources = {letter: _sources(machine, letter) for letter in sorted(set(text))}
    for letter in text:
        # Many states can have the same ones before them, and the numbers can be long, so each sum is made once only.
        sums = {}
        for befores in sources[letter]:
            if befores not in sums:
                sums[befores] = sum([counts[number] for number in befores])
        counts = [sums[befores] for befores in sources[letter]]
    return counts


def _sources(machine, letter):
    """For each state the tuple of the numbers of the states from which a letter leads to it."""
    sources = [[] for _ in machine.states]
    for before, after, _ in machine.moves(letter):
        sources[after].append(before)
    return [tuple(befores) for befores in sources]


def _is_way(machine, text, value):
    """Whether the value is a way along a text."""
    if not isinstance(value, tuple) or len(value) != len(text) + 1:
        return False
    # Judged before they are looked up, since not every value can be a key.
    if not all([isinstance(state, str) for state in value]) or value[0] not in machine.states:
        return False
    return all([machine.price_at(place) is not None for place in zip(value, text, value[1:])])


def _way_price(machine, text, way):
    """The price of a way along a text."""
    return sum([machine.price_at(place) for place in zip(way, text, way[1:])])
