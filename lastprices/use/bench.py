"""A bench: a machine that is worked on, with pledges that hold for it, and with its changes."""

from lastprices.base.checks import check_machine
from lastprices.base.lines import told_by_line
from lastprices.base.words import is_count
from lastprices.decide.papers import last_price
from lastprices.errors import InvalidNumber, InvalidOperation, NothingToUndo, ParseError, Refused, TooMany, UnknownName
from lastprices.use.pledges import is_among, is_held, is_pledge

MAX_PLEDGES = 10


class Stand:
    """How a bench stands between two changes; it never changes."""

    def __init__(self, engine, least, pledged, before):
        # The machine, its last price, and the tuple of the pledges.
        self.engine = engine
        self.least = least
        self.pledged = pledged
        self.written = engine.lines
        # The stand before the last change, None if there was none, and how many changes there were.
        self.before = before
        self.changes = 0 if before is None else before.changes + 1


class Undone:
    """A stand that was taken back, and those that were taken back ahead of it."""

    def __init__(self, stand, more):
        self.stand = stand
        self.more = more
        self.many = 1 if more is None else more.many + 1


class Trial:
    """A block behind which a bench is as it was before it."""

    def __init__(self, bench):
        self.base = bench
        self.kept = None

    def __enter__(self):
        # The same trial can be entered again within its own block.
        self.kept = Kept(self.base.stand, self.base.undone, self.kept)
        return self.base

    def __exit__(self, kind, value, trace):
        self.base.stand = self.kept.stand
        self.base.undone = self.kept.undone
        self.kept = self.kept.outer


class Kept:
    """What a bench had when a block began, and what is kept for the block around it."""

    def __init__(self, stand, undone, outer):
        self.stand = stand
        self.undone = undone
        self.outer = outer


class Bench:
    """A machine that is worked on."""

    def __init__(self, machine):
        if isinstance(machine, Kept):
            self.stand = machine.stand
            self.undone = machine.undone
        else:
            check_machine(machine)
            self.stand = Stand(machine, last_price(machine), (), None)
            self.undone = None

    @property
    def machine(self):
        """The machine as it is now."""
        return self.stand.engine

    @property
    def last(self):
        """Its last price, None if it is not limited."""
        return self.stand.least

    @property
    def pledges(self):
        """The tuple of the pledges, in the order of demands."""
        return self.stand.pledged

    def draw(self, line):
        """Works on with one more line, or with another one of its place."""
        told = told_by_line(line)
        if told is None:
            raise ParseError(None)
        machine = self.stand.engine
        if told[0] == "first":
            return self._turned_to(machine.with_ends(firsts=told[1]))
        if told[0] == "last":
            return self._turned_to(machine.with_ends(lasts=told[1]))
        state, letter, later = told[0]
        return self._turned_to(machine.with_arc(state, letter, later, told[1]))

    def erase(self, line):
        """Works on without the line of an arc."""
        told = told_by_line(line)
        # Where first or last states are told, there is no arc either.
        if told is None or self.stand.engine.price_at(told[0]) != told[1]:
            raise UnknownName(line)
        state, letter, later = told[0]
        return self._turned_to(self.stand.engine.without_arc(state, letter, later))

    def demand(self, pledge):
        """Demands that a pledge holds from now on."""
        stand = self.stand
        if not is_pledge(pledge) or pledge in stand.pledged:
            raise InvalidOperation("this is no pledge, or it is there already")
        if len(stand.pledged) == MAX_PLEDGES:
            raise TooMany(MAX_PLEDGES)
        if not is_held(stand.engine, stand.least, pledge):
            raise Refused(pledge)
        return self._changed(Stand(stand.engine, stand.least, (*stand.pledged, pledge), stand))

    def waive(self, pledge):
        """Demands a pledge no longer."""
        stand = self.stand
        if not is_among(stand.pledged, pledge):
            raise InvalidOperation("this pledge is not there")
        left = tuple([other for other in stand.pledged if other != pledge])
        return self._changed(Stand(stand.engine, stand.least, left, stand))

    def undo(self, *, many=1):
        """Takes back so many changes."""
        if not is_count(many):
            raise InvalidNumber(many)
        if many > self.stand.changes:
            raise NothingToUndo(many)
        start = self.stand
        for _ in range(many):
            self.undone = Undone(self.stand, self.undone)
            self.stand = self.stand.before
        return _news(start, self.stand)

    def redo(self, *, many=1):
        """Does again so many changes that were taken back."""
        if not is_count(many):
            raise InvalidNumber(many)
        if many > 0 and (self.undone is None or many > self.undone.many):
            raise NothingToUndo(many)
        start = self.stand
        for _ in range(many):
            self.stand = self.undone.stand
            self.undone = self.undone.more
        return _news(start, self.stand)

    def trial(self):
        """A block behind which the bench is as it was before it."""
        return Trial(self)

    def during(self, call):
        """What a function tells of the bench in such a block."""
        with self.trial() as same:
            return call(same)

    def twin(self):
        """An independent bench with the same machine, pledges and changes."""
        return Bench(Kept(self.stand, self.undone, None))

    def _turned_to(self, machine):
        """Goes on with another machine, if all pledges hold for it."""
        stand = self.stand
        if machine == stand.engine:
            return self._changed(Stand(stand.engine, stand.least, stand.pledged, stand))
        least = last_price(machine)
        for pledge in stand.pledged:
            if not is_held(machine, least, pledge):
                raise Refused(pledge)
        return self._changed(Stand(machine, least, stand.pledged, stand))

    def _changed(self, stand):
        """Makes a change, and tells its news."""
        before = self.stand
        self.stand = stand
        self.undone = None
        return _news(before, stand)

    def __contains__(self, x):
        return x in self.stand.written or is_among(self.stand.pledged, x)

    def __len__(self):
        return len(self.stand.written)

    def __iter__(self):
        return iter(self.stand.written)

    def __eq__(self, other):
        if not isinstance(other, Bench):
            return False
        return self.stand.engine == other.stand.engine and self.stand.pledged == other.stand.pledged

    def __str__(self):
        return f"bench with {len(self.stand.written)} lines, {len(self.stand.pledged)} pledges"


def _news(before, after):
    """The pair of both last prices, nothing if they are the same."""
    if before.least == after.least:
        return ()
    return before.least, after.least
