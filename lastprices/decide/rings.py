"""All runs: what they cost at most, rings that make them dearer and dearer, and texts with several runs."""

from lastprices.base.checks import check_machine
from lastprices.base.ways import set_along
from lastprices.base.words import is_text
from lastprices.decide.graphs import reached_from, read_to, useful_arcs
from lastprices.decide.twins import shortest_twins
from lastprices.read.prices import is_run


def run_bound(machine):
    """The greatest price of all runs, None if there is no greatest one."""
    check_machine(machine)
    if _dear_ring(machine) is not None:
        return None
    bests, _ = _dearest_ways(machine)
    return max([bests[state] for state in machine.first_numbers() if state in bests], default=0)


def dear_ring(machine):
    """Any dear ring with as few letters in all as possible, None if there is none."""
    check_machine(machine)
    return _dear_ring(machine)


def is_dear_ring(machine, value):
    """Whether the value is a dear ring of a machine."""
    check_machine(machine)
    if not isinstance(value, tuple) or len(value) != 3 or not all([is_text(text) for text in value]):
        return False
    many = len(machine)
    images = _priced_images(machine, value[1])
    begins = machine.led(machine.first_set(), value[0])
    for state in range(many):
        if begins >> state & 1 and set_along(images, 1 << state, value[1]) >> many + state & 1:
            if machine.led(1 << state, value[2]) & machine.last_set():
                return True
    return False


def dearest_run(machine):
    """Any pair of a text and of a run along it with the greatest price of all runs, None if there is none."""
    check_machine(machine)
    if _dear_ring(machine) is not None:
        return None
    bests, steps = _dearest_ways(machine)
    firsts = [state for state in machine.first_numbers() if state in bests]
    if len(firsts) == 0:
        return None
    run = [max(firsts, key=lambda state: bests[state])]
    letters = []
    while steps[run[-1]] is not None:
        letter, later = steps[run[-1]]
        letters.append(letter)
        run.append(later)
    return "".join(letters), tuple([machine.states[state] for state in run])


def is_deterministic(machine):
    """Whether there is one first state, and at most one arc for each state and letter."""
    check_machine(machine)
    arcs = machine.arcs
    return len(machine.firsts) == 1 and len(set([place[:2] for place in arcs])) == len(arcs)


def is_unambiguous(machine):
    """Whether no text has two runs."""
    check_machine(machine)
    return shortest_twins(machine) is None


def two_runs(machine):
    """Any triple of a text, as short as possible, and of two different runs along it, None if there is none."""
    check_machine(machine)
    return shortest_twins(machine)


def is_two_runs(machine, value):
    """Whether the value is a triple of a text and of two different runs along it, the lesser one first."""
    check_machine(machine)
    if not isinstance(value, tuple) or len(value) != 3 or not is_text(value[0]):
        return False
    return all([is_run(machine, value[0], run) for run in value[1:]]) and value[1] < value[2]


def _dear_ring(machine):
    """A dear ring with as few letters in all as possible, None if there is none."""
    # Kept as the only part of a tuple, so that it is known, too, that there is none.
    told = machine.remembered("ring")
    if told is None:
        told = (_shortest_ring(useful_arcs(machine), machine),)
        machine.remember("ring", told)
    return told[0]


def _shortest_ring(arcs, machine):
    """A dear ring with as few letters in all as possible, by the arcs through which runs go, None if there is none."""
    if not any([arc[3] > 0 for arc in arcs]):
        return None
    ahead, behind, around = {}, {}, {}
    for state, letter, later, price in arcs:
        ahead.setdefault(state, []).append((later, letter))
        behind.setdefault(later, []).append((state, letter))
        # On the way round a ring it is told with each state whether anything was paid.
        around.setdefault((state, True), []).append(((later, True), letter))
        around.setdefault((state, False), []).append(((later, price > 0), letter))
    begins = reached_from(machine.first_numbers(), ahead)
    ends = reached_from(machine.last_numbers(), behind)
    best = None
    for state in sorted(ahead):
        ring = reached_from([(state, False)], around)
        if (state, True) in ring:
            words = (read_to(begins, state)[::-1], read_to(ring, (state, True))[::-1], read_to(ends, state))
            many = sum([len(word) for word in words])
            if best is None or many < best[0]:
                best = (many, tuple(["".join(word) for word in words]))
    return None if best is None else best[1]


def _dearest_ways(machine):
    """A dict from states to the greatest prices of ways to a last state, where there is no dear ring; and their steps.

    Steps are pairs of a letter and of a next state, None where nothing is gained by going on.
    """
    arcs = useful_arcs(machine)
    lasts = machine.last_numbers()
    bests = {state: 0 for state in lasts}
    steps = {state: None for state in lasts}
    changed = True
    while changed:
        changed = False
        for state, letter, later, price in arcs:
            if later in bests and (state not in bests or bests[later] + price > bests[state]):
                bests[state] = bests[later] + price
                steps[state] = (letter, later)
                changed = True
    return bests, steps


def _priced_images(machine, text):
    """The images of the letters of a text for sets of states with twins, to which ways lead on which anything is paid.

    The bit of the twin of a state stands as many bits higher as there are states.
    """
    many = len(machine)
    images = {}
    for letter in sorted(set(text)):
        sets = {}
        for state, later, price in machine.moves(letter):
            paid = 1 << many + later
            sets[1 << state] = sets.get(1 << state, 0) | 1 << later | (paid if price > 0 else 0)
            sets[1 << many + state] = sets.get(1 << many + state, 0) | paid
        images[letter] = tuple(sets.items())
    return images
