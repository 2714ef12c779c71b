"""The commands of shells, and their answers.

An answer is a string, None where there is no such command. The empty text is written as `-`.
"""

from lastprices.base.words import is_text
from lastprices.decide.dear import dear_text, prices_of
from lastprices.decide.papers import growing_pattern, is_paper, worst_text
from lastprices.decide.powers import power, split
from lastprices.decide.rings import run_bound
from lastprices.read.prices import price_of
from lastprices.rows.tables import row_of
from lastprices.signs.patterns import is_pattern
from lastprices.signs.squares import Square
from lastprices.signs.webs import Web
from lastprices.text.texts import number_read, write_row


def answered(bench, line):
    """The answer to a command, which can change the bench."""
    if not isinstance(line, str):
        return None
    word, blank, rest = line.partition(" ")
    if word in PLAIN:
        tell = PLAIN[word]
        return None if blank else tell(bench)
    if word in TOLD and blank:
        tell = TOLD[word]
        return tell(bench, rest)
    return None


def written_pledge(pledge):
    """A pledge as it stands in a command."""
    if pledge[0] == "costs":
        return f"costs {_written_text(pledge[1])} {_written_number(pledge[2])}"
    return " ".join([str(part) for part in pledge])


def _written_text(text):
    """A text, `none` for None."""
    if text is None:
        return "none"
    return "-" if text == "" else text


def _written_number(number):
    """A number, `none` for None."""
    return "none" if number is None else str(number)


def _written_news(news):
    """The news of a change."""
    if news == ():
        return "nothing"
    return f"from {_written_number(news[0])} to {_written_number(news[1])}"


def _text_read(word):
    """The text that a word is, None if it is none."""
    if word == "-":
        return ""
    return word if word != "" and is_text(word) else None


def _pledge_read(rest):
    """The pledge that stands in a command, None if there is none."""
    words = rest.split(" ")
    if words == ["limited"]:
        return ("limited",)
    if len(words) == 2 and words[0] in ("most", "power"):
        number = number_read(words[1])
        return None if number is None else (words[0], number)
    if len(words) == 3 and words[0] == "costs":
        text, number = _text_read(words[1]), number_read(words[2])
        if text is not None and (number is not None or words[2] == "none"):
            return "costs", text, number
    return None


def _undo(bench):
    """Takes back a change."""
    return _written_news(bench.undo())


def _redo(bench):
    """Does a change again."""
    return _written_news(bench.redo())


def _lines(bench):
    """The lines of the machine."""
    return "; ".join(bench.machine.lines)


def _pledges(bench):
    """The pledges."""
    return "; ".join([written_pledge(pledge) for pledge in bench.pledges]) or "nothing"


def _last(bench):
    """The last price."""
    return _written_number(bench.last)


def _worst(bench):
    """A text that costs it."""
    return _written_text(worst_text(bench.machine))


def _bound(bench):
    """The greatest price of all runs."""
    return _written_number(run_bound(bench.machine))


def _power(bench):
    """The power of the machine."""
    return _written_number(power(bench.machine))


def _paper(bench):
    """The first line of a paper."""
    if bench.last is not None:
        return f"enough {bench.last}"
    return f"grows {growing_pattern(bench.machine)}"


def _web(bench):
    """What the web is like."""
    return str(Web(bench.machine))


def _draw(bench, rest):
    """Works on with one more line."""
    return _written_news(bench.draw(rest))


def _erase(bench, rest):
    """Works on without a line."""
    return _written_news(bench.erase(rest))


def _demand(bench, rest):
    """Demands a pledge."""
    pledge = _pledge_read(rest)
    return None if pledge is None else _written_news(bench.demand(pledge))


def _waive(bench, rest):
    """Demands a pledge no longer."""
    pledge = _pledge_read(rest)
    return None if pledge is None else _written_news(bench.waive(pledge))


def _grows(bench, rest):
    """Whether a pattern grows."""
    if not is_pattern(rest):
        return None
    return "yes" if is_paper(bench.machine, ("grows", rest)) else "no"


def _price(bench, rest):
    """The price of a text."""
    text = _text_read(rest)
    return None if text is None else _written_number(price_of(bench.machine, text))


def _split(bench, rest):
    """The pieces of a text."""
    text = _text_read(rest)
    return None if text is None else " ".join(split(bench.machine, text)) or "-"


def _dear(bench, rest):
    """The first text that costs so much."""
    number = number_read(rest)
    return None if number is None else _written_text(dear_text(bench.machine, number))


def _prices(bench, rest):
    """The prices of texts with so many letters."""
    number = number_read(rest)
    if number is None:
        return None
    told = prices_of(bench.machine, number)
    return ", ".join([f"{price}: {told[price]}" for price in told]) or "none"


def _square(bench, rest):
    """The square of a text."""
    text = _text_read(rest)
    return None if text is None else str(Square.of_text(bench.machine, text))


def _row(bench, rest):
    """The row of a text."""
    word, _, figures = rest.partition(" ")
    text, number = _text_read(word), number_read(figures)
    return None if text is None or number is None else write_row(row_of(bench.machine, number, text))


# What stands alone, and what has something behind it.
PLAIN = {"undo": _undo, "redo": _redo, "lines": _lines, "pledges": _pledges, "last": _last, "worst": _worst,
    "bound": _bound, "power": _power, "paper": _paper, "web": _web}
TOLD = {"draw": _draw, "erase": _erase, "demand": _demand, "waive": _waive, "grows": _grows, "price": _price,
    "split": _split, "dear": _dear, "prices": _prices, "square": _square, "row": _row}
