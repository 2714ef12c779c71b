"""The parts of machines: their ends and the places of their arcs."""

from lastprices.base.words import is_letter, is_name


def is_ends(value):
    """Whether the value is an ascending tuple of states, at least one."""
    if not isinstance(value, tuple) or len(value) == 0:
        return False
    if not all([is_name(state) for state in value]):
        return False
    return all([one < other for one, other in zip(value, value[1:])])


def is_triple(value):
    """Whether the value is a triple of strings."""
    if not isinstance(value, tuple) or len(value) != 3:
        return False
    return isinstance(value[0], str) and isinstance(value[1], str) and isinstance(value[2], str)


def is_place(value):
    """Whether the value is a triple of a state, a letter and a next state."""
    if not isinstance(value, tuple) or len(value) != 3:
        return False
    return is_name(value[0]) and is_letter(value[1]) and is_name(value[2])


def states_of(firsts, lasts, arcs):
    """The ascending tuple of all states that stand among the ends and in the arcs."""
    befores = [place[0] for place in arcs]
    laters = [place[2] for place in arcs]
    return tuple(sorted(set([*firsts, *lasts, *befores, *laters])))


def letters_of(arcs):
    """The ascending tuple of the letters of some arcs."""
    return tuple(sorted(set([place[1] for place in arcs])))
