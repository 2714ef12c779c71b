"""Machines: states, some of them first or last ones, and arcs with prices between them."""

from lastprices.base.lines import lines_of, told_by_lines
from lastprices.base.making import backwards, chosen, greatest_sum, linked, named_arcs, named_ends, summed
from lastprices.base.parts import is_ends, is_place, is_triple, letters_of, states_of
from lastprices.base.tracks import Track
from lastprices.base.ways import images_of, moves_of, numbers_of, set_along, set_of, start_of
from lastprices.base.words import is_letter, is_name, is_text
from lastprices.errors import InvalidMachine, InvalidOperation, InvalidText, TooMany, UnknownName

MAX_STATES = 24
MAX_PRICE = 9


def is_price(value):
    """Whether the value is the price of an arc."""
    return isinstance(value, int) and 0 <= value <= MAX_PRICE and not isinstance(value, bool)


def is_arcs(value):
    """Whether the value is a dict from the places of arcs to prices."""
    if not isinstance(value, dict) or not all([is_triple(place) for place in value]):
        return False
    # The same names and letters stand in many arcs.
    names = set([name for state, _, later in value for name in (state, later)])
    letters = set([place[1] for place in value])
    if not all([is_name(name) for name in sorted(names)]) or not all([is_letter(letter) for letter in sorted(letters)]):
        return False
    return all([is_price(value[place]) for place in value])


def is_naming(states, value):
    """Whether the value is a dict from just these states to different names."""
    if not isinstance(value, dict) or len(value) != len(states):
        return False
    if not all([state in value and is_name(value[state]) for state in states]):
        return False
    return len(set([value[state] for state in states])) == len(states)


def check_states(many):
    """Raises TooMany if a machine that is made would have so many states."""
    if many > MAX_STATES:
        raise TooMany(MAX_STATES)


class MadeArcs:
    """Arcs of which it is known that they are some, beside ends that may be none."""

    def __init__(self, made):
        self.made = made


class Machine:
    """A machine, which never changes; it only keeps what it finds out when texts are read."""

    def __init__(self, firsts, lasts, arcs):
        if isinstance(arcs, MadeArcs):
            arcs = arcs.made
        elif not is_arcs(arcs):
            raise InvalidMachine("these are no arcs")
        if not is_ends(firsts) or not is_ends(lasts):
            raise InvalidMachine("these are no first or last states")
        self._firsts = firsts
        self._lasts = lasts
        self._arcs = {place: arcs[place] for place in sorted(arcs)}
        self._states = states_of(firsts, lasts, arcs)
        if len(self._states) > MAX_STATES:
            raise InvalidMachine("there are too many states")
        self._letters = letters_of(arcs)
        self._lines = lines_of(firsts, lasts, self._arcs)
        self._images = images_of(self._states, self._letters, self._arcs)
        self._first_numbers = numbers_of(self._states, firsts)
        self._last_numbers = numbers_of(self._states, lasts)
        self._first_set = set_of(self._first_numbers)
        self._last_set = set_of(self._last_numbers)
        # Both are made when they are needed.
        self._moves = None
        self._track = None
        # By words: what was found out about the machine elsewhere.
        self._notes = {}

    @classmethod
    def from_lines(cls, *lines):
        """The machine with these lines, in any order."""
        arcs = told_by_lines(lines)
        # Without such a line there are no such ends, which no machine has.
        firsts = arcs.pop("first", ())
        lasts = arcs.pop("last", ())
        return cls(firsts, lasts, MadeArcs(arcs))

    @property
    def firsts(self):
        """The ascending tuple of the first states."""
        return self._firsts

    @property
    def lasts(self):
        """The ascending tuple of the last states."""
        return self._lasts

    @property
    def arcs(self):
        """A dict from the triples (state, letter, next state) to the prices of the arcs."""
        # A copy, so that changes of it do not reach the machine.
        return {place: self._arcs[place] for place in self._arcs}

    @property
    def states(self):
        """The ascending tuple of all states."""
        return self._states

    @property
    def letters(self):
        """The ascending tuple of the letters of the arcs."""
        return self._letters

    @property
    def lines(self):
        """The tuple of the lines of the machine."""
        return self._lines

    def steps(self, state, letter):
        """The ascending tuple of the pairs (next state, price) of the arcs from a state with a letter."""
        if state not in self._states:
            raise UnknownName(state)
        if not is_letter(letter):
            raise InvalidText("this is no letter")
        laters = [later for later in self._states if (state, letter, later) in self._arcs]
        return tuple([(later, self._arcs[state, letter, later]) for later in laters])

    def first_numbers(self):
        """The tuple of the numbers of the first states, in the order of all states."""
        return self._first_numbers

    def last_numbers(self):
        """The tuple of the numbers of the last states, in the order of all states."""
        return self._last_numbers

    def first_set(self):
        """The set of the first states, with a bit for each of their numbers."""
        return self._first_set

    def last_set(self):
        """The set of the last states, with a bit for each of their numbers."""
        return self._last_set

    def price_at(self, place):
        """The price of the arc at a place, None if there is none; the place is a string, or a tuple of strings."""
        return self._arcs.get(place)

    def images(self, letter):
        """The tuple of the pairs of the bit of a state and of the set of states to which a letter leads from it."""
        return self._images.get(letter, ())

    def moves(self, letter):
        """The tuple of the arcs with a letter, as triples of the numbers of both states and of the price."""
        if self._moves is None:
            self._moves = moves_of(self._states, self._arcs)
        return self._moves.get(letter, ())

    def track(self):
        """What is known of the rows to which texts lead."""
        if self._track is None:
            moves = {letter: self.moves(letter) for letter in self._letters}
            self._track = Track(moves, start_of(self), self._last_numbers)
        return self._track

    def remembered(self, word):
        """What was found out about the machine under a word, None if nothing was."""
        return self._notes.get(word)

    def remember(self, word, value):
        """Keeps under a word what was found out about the machine."""
        self._notes[word] = value

    def led(self, states, text):
        """The set of states to which a text leads from a set."""
        return set_along(self._images, states, text)

    def with_arc(self, state, letter, later, price):
        """The machine with one more arc, or with another price of this one."""
        place = (state, letter, later)
        # Judged before it becomes a key, since not every value can be one.
        if not is_place(place) or not is_price(price):
            raise InvalidMachine("this is no arc")
        arcs = self.arcs
        arcs[place] = price
        return Machine(self._firsts, self._lasts, MadeArcs(arcs))

    def without_arc(self, state, letter, later):
        """The machine without an arc, and without the states that were there for it only."""
        place = (state, letter, later)
        # Judged before it is looked up, since not every value can be a key.
        if not is_place(place) or place not in self._arcs:
            raise UnknownName(place)
        arcs = self.arcs
        del arcs[place]
        return Machine(self._firsts, self._lasts, MadeArcs(arcs))

    def renamed(self, names):
        """The machine with other names of states, by a dict from just its states to different names."""
        if not is_naming(self._states, names):
            raise InvalidOperation("these are not different names for just the states")
        firsts = named_ends(self._firsts, names)
        lasts = named_ends(self._lasts, names)
        return Machine(firsts, lasts, MadeArcs(named_arcs(self._arcs, names)))

    def with_ends(self, *, firsts=None, lasts=None):
        """The machine with other first or last states; None leaves them."""
        if firsts is None:
            firsts = self._firsts
        if lasts is None:
            lasts = self._lasts
        return Machine(firsts, lasts, MadeArcs(self._arcs))

    def __or__(self, other):
        if not isinstance(other, Machine):
            return NotImplemented
        check_states(len(self._states) + len(other._states))
        firsts, lasts, arcs = chosen(self, other)
        return Machine(firsts, lasts, MadeArcs(arcs))

    def __add__(self, other):
        if not isinstance(other, Machine):
            return NotImplemented
        if greatest_sum(self, other) > MAX_PRICE:
            raise InvalidOperation("the sum of two prices is too great for an arc")
        check_states(len(self._states) * len(other._states))
        firsts, lasts, arcs = summed(self, other)
        return Machine(firsts, lasts, MadeArcs(arcs))

    def __mul__(self, other):
        if not isinstance(other, Machine):
            return NotImplemented
        check_states(len(self._states) + len(other._states))
        firsts, lasts, arcs = linked(self, other)
        return Machine(firsts, lasts, MadeArcs(arcs))

    def __invert__(self):
        firsts, lasts, arcs = backwards(self)
        return Machine(firsts, lasts, MadeArcs(arcs))

    def __call__(self, text):
        if not is_text(text):
            raise InvalidText("this is no text")
        return self.track().price_along(text)

    def __contains__(self, x):
        return is_text(x) and set_along(self._images, self._first_set, x) & self._last_set != 0

    def __len__(self):
        return len(self._states)

    def __iter__(self):
        return iter(self._lines)

    def __eq__(self, other):
        if not isinstance(other, Machine):
            return False
        return self._firsts == other._firsts and self._lasts == other._lasts and self._arcs == other._arcs

    def __str__(self):
        return f"machine with {len(self._states)} states, {len(self._arcs)} arcs"
