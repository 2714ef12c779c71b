"""Machines, rows, squares and papers, written as texts and read from them."""

from lastprices.base.checks import check_machine
from lastprices.base.lines import FIGURES
from lastprices.base.machines import MAX_STATES, Machine
from lastprices.base.words import is_count, is_integer
from lastprices.errors import InvalidPaper, InvalidRow, InvalidSquare, ParseError
from lastprices.rows.tables import MAX_CAP
from lastprices.signs.patterns import is_pattern
from lastprices.signs.squares import is_square


def write_machine(machine):
    """The text of a machine."""
    check_machine(machine)
    return "\n".join(machine.lines)


def read_machine(text):
    """The machine of a text."""
    lines = _lines_of(text)
    return Machine.from_lines(*lines)


def write_row(row):
    """The text of a row."""
    if not _is_row(row):
        raise InvalidRow("this is no row")
    return " ".join(["-" if price < 0 else str(price) for price in row])


def read_row(text):
    """The row of a text."""
    row = _row_read(text) if isinstance(text, str) else None
    if row is None:
        raise ParseError(None)
    return row


def write_square(rows):
    """The text of the rows of a square."""
    if not is_square(rows):
        raise InvalidSquare("these are not the rows of a square")
    return "/".join(rows)


def read_square(text):
    """The rows of the square of a text."""
    rows = tuple(text.split("/")) if isinstance(text, str) else None
    if not is_square(rows):
        raise ParseError(None)
    return rows


def write_paper(paper):
    """The text of what has the form of a paper."""
    if not _is_paper(paper):
        raise InvalidPaper("this does not have the form of a paper")
    if len(paper) == 2:
        return f"grows {paper[1]}"
    rows = [write_row(row) for row in paper[2]]
    return "\n".join([f"enough {paper[1]}", *rows])


def read_paper(text):
    """What has the form of a paper, of a text."""
    lines = _lines_of(text)
    words = lines[0].split(" ")
    if len(words) != 2:
        raise ParseError(0)
    if words[0] == "grows" and is_pattern(words[1]):
        if len(lines) > 1:
            raise ParseError(1)
        return "grows", words[1]
    cap = number_read(words[1])
    if words[0] != "enough" or cap is None or cap > MAX_CAP:
        raise ParseError(0)
    return "enough", cap, _rows_read(cap, lines)


def number_read(word):
    """The integer of at least 0 that a word is, None if it is none."""
    # Not every integer is so short, but none of those that can be passed is longer than sixty figures.
    if word == "" or len(word) > 60 or word.strip(FIGURES) != "" or (word[0] == "0" and word != "0"):
        return None
    return int(word)


def _lines_of(text):
    """The list of the lines of a text."""
    if not isinstance(text, str):
        raise ParseError(None)
    return text.split("\n")


def _is_row(value):
    """Whether the value is a tuple of one to 24 integers, -1 or from 0 to 201."""
    if not isinstance(value, tuple) or not 1 <= len(value) <= MAX_STATES:
        return False
    return all([is_integer(price) and -1 <= price <= MAX_CAP + 1 for price in value])


def _row_read(text):
    """The row of a string, None if there is none."""
    row = tuple([-1 if word == "-" else number_read(word) for word in text.split(" ")])
    return row if _is_row(row) else None


def _rows_read(cap, lines):
    """The tuple of the rows of all lines but the first one, of a paper with a number."""
    rows = []
    for number, line in enumerate(lines[1:], start=1):
        row = _row_read(line)
        if row is None or not _fits(cap, rows, row):
            raise ParseError(number)
        rows.append(row)
    if len(rows) == 0:
        raise ParseError(len(lines))
    return tuple(rows)


def _fits(cap, rows, row):
    """Whether a row can stand behind other rows of a paper with a number."""
    if max(row) > cap + 1:
        return False
    return len(rows) == 0 or (len(rows[-1]) == len(row) and rows[-1] < row)


def _is_paper(value):
    """Whether the value has the form of a paper."""
    if not isinstance(value, tuple):
        return False
    if len(value) == 2 and value[0] == "grows":
        return is_pattern(value[1])
    if len(value) != 3 or value[0] != "enough" or not is_count(value[1]) or value[1] > MAX_CAP:
        return False
    rows = value[2]
    if not isinstance(rows, tuple) or len(rows) == 0 or not all([_is_row(row) for row in rows]):
        return False
    return all([_fits(value[1], rows[max(number - 1, 0):number], row) for number, row in enumerate(rows)])
