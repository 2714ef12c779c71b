"""Papers: what shows that one price is enough for all texts of a machine, or that none is."""

from lastprices.base.checks import check_machine, check_number
from lastprices.base.words import is_count
from lastprices.decide.lasts import spread_to_last
from lastprices.errors import InvalidRow, TooMany
from lastprices.rows.codes import Codes
from lastprices.rows.spread import Spread
from lastprices.rows.tables import MAX_CAP, Table
from lastprices.signs.patterns import Pattern, is_pattern
from lastprices.signs.shortest import Shortest
from lastprices.signs.webs import growing_ones, has_growing_square, whole_closure


def is_limited(machine):
    """Whether there is a number that no price of a text exceeds."""
    check_machine(machine)
    return not has_growing_square(machine)


def last_price(machine):
    """The least number that no price of a text exceeds, None if there is none."""
    if not is_limited(machine):
        return None
    return spread_to_last(machine)[0]


def worst_text(machine):
    """The first one of the shortest texts that cost the last price, None if there is none."""
    if not is_limited(machine):
        return None
    last, spread = spread_to_last(machine)
    worst = [code for code in spread.befores if spread.codes.price_of(code) == last]
    return spread.text_to(worst[0]) if worst else None


def growing_pattern(machine):
    """The text of any growing pattern, None if the machine is limited."""
    check_machine(machine)
    closure = whole_closure(machine)
    growing = growing_ones(machine, closure.origins)
    if len(growing) == 0:
        return None
    texts = [text for text in [closure.text_of(rows) for rows in growing] if text is not None]
    if len(texts) == 0:
        # Where all are too long for patterns, there can still be shorter ones of the same squares.
        patterns = Shortest(machine).patterns()
        texts = [patterns[rows] for rows in growing]
    return min(texts, key=len)


def paper(machine):
    """Any paper for a machine; one of the first form has the last price as its number."""
    pattern = growing_pattern(machine)
    if pattern is not None:
        return "grows", pattern
    last = spread_to_last(machine)[0]
    return "enough", last, Table(machine, last).rows


def is_paper(machine, value):
    """Whether the value is a paper for a machine."""
    check_machine(machine)
    if not isinstance(value, tuple):
        return False
    if len(value) == 2 and value[0] == "grows":
        return is_pattern(value[1]) and Pattern(value[1]).is_growing(machine)
    return len(value) == 3 and value[0] == "enough" and _is_enough(machine, value[1], value[2])


def rows_from(machine, cap, rows):
    """The ascending tuple of some rows, and of all to which letters lead from these."""
    check_machine(machine)
    check_number(cap, MAX_CAP)
    codes = Codes([machine], cap, True)
    starts = _codes_of(codes, rows)
    if starts is None:
        raise InvalidRow("these are no rows")
    spread = Spread(codes, starts)
    spread.grow_fully()
    return codes.rows_of(spread.befores)


def _codes_of(codes, rows):
    """The list of the codes of a tuple of rows, None if this is none."""
    if not isinstance(rows, tuple):
        return None
    found = [codes.code_of(row) for row in rows]
    return None if None in found else found


def _is_enough(machine, cap, rows):
    """Whether a number and rows are those of a paper of the first form."""
    if not is_count(cap) or cap > MAX_CAP:
        return False
    codes = Codes([machine], cap, True)
    found = _codes_of(codes, rows)
    if found is None or not all([one < other for one, other in zip(rows, rows[1:])]):
        return False
    spread = Spread(codes, found)
    if codes.first_code not in spread.befores or codes.wrong_ones(found):
        return False
    try:
        spread.grow()
    except TooMany:
        return False
    return len(spread.layer) == 0
