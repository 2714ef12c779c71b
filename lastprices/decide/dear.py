"""Dear texts: how many texts have which prices, and which ones."""

from lastprices.base.checks import check_machine, check_number
from lastprices.base.words import is_count, is_text
from lastprices.decide.layers import CappedLayers, PlainLayers
from lastprices.errors import InvalidNumber, InvalidText, NotTaken
from lastprices.read.prices import MAX_LENGTH
from lastprices.rows.codes import Codes
from lastprices.rows.spread import Spread
from lastprices.rows.tables import MAX_CAP


def dear_text(machine, price):
    """The first one of the shortest texts that are taken and cost at least a price, None if there is none."""
    check_machine(machine)
    check_number(price, MAX_CAP)
    codes = Codes([machine], price)
    spread = Spread(codes, [codes.first_code])
    while spread.layer:
        dear = [code for code in spread.layer if codes.price_of(code) >= price]
        if dear:
            return spread.text_to(dear[0])
        spread.grow()
    return None


def prices_of(machine, length):
    """A dict from the prices of the taken texts with so many letters to the numbers of such texts."""
    _check(machine, length)
    found = {}
    layer, _ = PlainLayers(machine).spent_to(length)
    for node, spent in layer.items():
        if node.least is not None:
            for price, many in spent.items():
                found[price + node.least] = found.get(price + node.least, 0) + many
    return {price: found[price] for price in sorted(found)}


def count_priced(machine, length, price):
    """The number of the taken texts with so many letters and just this price."""
    _check_priced(machine, length, price)
    layers = CappedLayers(machine, price)
    ends = layers.many_to(length)
    return sum([ends[code] for code in ends if layers.codes.price_of(code) == price])


def each_priced(machine, length, price):
    """A generator of the taken texts with so many letters and just this price, ascending."""
    _check_priced(machine, length, price)
    layers = CappedLayers(machine, price)
    counts = layers.many_from(length, price)
    # What is waiting stands in descending order, and the last one is taken first.
    waiting = [("", layers.codes.first_code)]
    while waiting:
        text, code = waiting.pop()
        if counts[len(text)][code] > 0:
            if len(text) == length:
                yield text
            else:
                for letter, later in reversed(list(zip(machine.letters, layers.after(code)))):
                    waiting.append((text + letter, later))


def priced_at(machine, length, price, number):
    """The text with a number among those with so many letters and just this price."""
    _check_priced(machine, length, price)
    if not is_count(number):
        raise InvalidNumber(number)
    layers = CappedLayers(machine, price)
    counts = layers.many_from(length, price)
    code = layers.codes.first_code
    if number >= counts[0][code]:
        raise InvalidNumber(number)
    letters = []
    left = number
    for behind in counts[1:]:
        at = 0
        laters = layers.after(code)
        while left >= behind[laters[at]]:
            left -= behind[laters[at]]
            at += 1
        letters.append(machine.letters[at])
        code = laters[at]
    return "".join(letters)


def number_of(machine, text):
    """The number of a text among the taken ones of its length and price."""
    check_machine(machine)
    if not is_text(text) or len(text) > MAX_LENGTH:
        raise InvalidText("this is no text of at most 200 letters")
    price = machine(text)
    if price is None:
        raise NotTaken(text)
    if price > MAX_CAP:
        raise InvalidNumber(price)
    layers = CappedLayers(machine, price)
    counts = layers.many_from(len(text), price)
    code = layers.codes.first_code
    number = 0
    for letter, behind in zip(text, counts[1:]):
        at = machine.letters.index(letter)
        laters = layers.after(code)
        number += sum([behind[later] for later in laters[:at]])
        code = laters[at]
    return number


def dearest(machine, length):
    """The first text among the taken ones with so many letters that cost most, None if none is taken."""
    _check(machine, length)
    layers = PlainLayers(machine)
    _, reached = layers.spent_to(length)
    # By numbers of letters that are left: the greatest prices of what can still be read, None where nothing is taken.
    bests = [{node: node.least for node in reached[-1]}]
    for layer in reached[-2::-1]:
        bests.append({node: max(_totals(layers, node, bests[-1]), default=None) for node in layer})
    node = layers.begin()
    if bests[-1][node] is None:
        return None
    letters = []
    for left in reversed(range(length)):
        best = bests[left + 1][node]
        steps = [(letter, later, fall) for letter, (later, fall) in zip(machine.letters, layers.after(node))]
        kept = [(letter, later) for letter, later, fall in steps
            if bests[left][later] is not None and bests[left][later] + fall == best]
        letters.append(kept[0][0])
        node = kept[0][1]
    return "".join(letters)


def _totals(layers, node, bests):
    """The list of the greatest prices by way of each letter, where something is taken."""
    return [bests[later] + fall for later, fall in layers.after(node) if bests[later] is not None]


def _check(machine, length):
    """Raises an error if one of both is none."""
    check_machine(machine)
    check_number(length, MAX_LENGTH)


def _check_priced(machine, length, price):
    """Raises an error if one of the three is none."""
    _check(machine, length)
    check_number(price, MAX_CAP)
