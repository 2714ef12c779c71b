"""Dear texts: how many texts have which prices, and which ones."""

from lastprices.base.checks import check_machine, check_number
from lastprices.base.words import is_count, is_text
from lastprices.decide.spents import bests_to, lowered_layers, numbers_by_prices
from lastprices.decide.tallies import number_for, tally_for
from lastprices.errors import InvalidNumber, InvalidText, NotTaken
from lastprices.read.prices import MAX_LENGTH
from lastprices.rows.codes import Codes
from lastprices.rows.spread import Spread
from lastprices.rows.tables import MAX_CAP


def dear_text(machine, price):
    """The first one of the shortest texts that are taken and cost at least a price, None if there is none."""
    check_machine(machine)
    check_number(price, MAX_CAP)
    codes = Codes([machine], price)
    spread = Spread(codes, [codes.first_code])
    while spread.layer:
        dear = [code for code, cost in zip(spread.layer, codes.prices_at(spread.layer)) if cost >= price]
        if dear:
            return spread.text_to(dear[0])
        spread.grow()
    return None


def prices_of(machine, length):
    """A dict from the prices of the taken texts with so many letters to the numbers of such texts."""
    _check(machine, length)
    return numbers_by_prices(lowered_layers(machine, length), length)


def count_priced(machine, length, price):
    """The number of the taken texts with so many letters and just this price."""
    _check_priced(machine, length, price)
    return number_for(machine, length, price)


def each_priced(machine, length, price):
    """A generator of the taken texts with so many letters and just this price, ascending."""
    _check_priced(machine, length, price)
    tally = tally_for(machine, length, price)
    # What is waiting stands in descending order, and the last one is taken first.
    waiting = [("", 0, price)] if tally.number_behind(length, 0, price) > 0 else []
    while waiting:
        text, row, rest = waiting.pop()
        while len(text) < length:
            found = _useful_steps(machine, tally, length - len(text) - 1, row, rest)
            for letter, later, left in found[:0:-1]:
                waiting.append((text + letter, later, left))
            letter, row, rest = found[0]
            text = text + letter
        yield text


def priced_at(machine, length, price, number):
    """The text with a number among those with so many letters and just this price."""
    _check_priced(machine, length, price)
    if not is_count(number):
        raise InvalidNumber(number)
    tally = tally_for(machine, length, price)
    if number >= tally.number_behind(length, 0, price):
        raise InvalidNumber(number)
    steps = _steps_of(machine, tally)
    letters = []
    row, rest, ahead = 0, price, number
    for left in reversed(range(length)):
        for letter, laters, falls in steps:
            later, less = laters[row], rest - falls[row]
            many = tally.number_behind(left, later, less)
            if ahead < many:
                break
            ahead -= many
        letters.append(letter)
        row, rest = later, less
    return "".join(letters)


def number_of(machine, text):
    """The number of a text among the taken ones of its length and price."""
    check_machine(machine)
    if not is_text(text) or len(text) > MAX_LENGTH:
        raise InvalidText("this is no text of at most 200 letters")
    price = machine(text)
    if price is None:
        raise NotTaken(text)
    if price > MAX_CAP:
        raise InvalidNumber(price)
    tally = tally_for(machine, len(text), price)
    steps = _steps_of(machine, tally)
    row, rest, number = 0, price, 0
    for at, letter in enumerate(text):
        left = len(text) - at - 1
        for other, laters, falls in steps:
            later, less = laters[row], rest - falls[row]
            if other == letter:
                break
            number += tally.number_behind(left, later, less)
        row, rest = later, less
    return number


def dearest(machine, length):
    """The first text among the taken ones with so many letters that cost most, None if none is taken."""
    _check(machine, length)
    layers = lowered_layers(machine, length)
    bests = bests_to(layers, length)
    row, best = 0, bests[-1][0]
    if best < 0:
        return None
    letters = []
    for behind in bests[-2::-1]:
        for letter, laters, falls in zip(machine.letters, layers.leads, layers.falls):
            if behind[laters[row]] + falls[row] == best:
                letters.append(letter)
                row, best = laters[row], best - falls[row]
                break
    return "".join(letters)


def _steps_of(machine, tally):
    """The list of the triples of a letter, and of what it leads to and of its falls, by the numbers of rows."""
    return list(zip(machine.letters, tally.layers.leads, tally.layers.falls))


def _useful_steps(machine, tally, left, row, rest):
    """The list of the triples of a letter with which texts go on from a row, of the next row and of what is left."""
    found = []
    for letter, laters, falls in zip(machine.letters, tally.layers.leads, tally.layers.falls):
        if tally.number_behind(left, laters[row], rest - falls[row]) > 0:
            found.append((letter, laters[row], rest - falls[row]))
    return found


def _check(machine, length):
    """Raises an error if one of both is none."""
    check_machine(machine)
    check_number(length, MAX_LENGTH)


def _check_priced(machine, length, price):
    """Raises an error if one of the three is none."""
    _check(machine, length)
    check_number(price, MAX_CAP)
