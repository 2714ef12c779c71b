"""How many texts of one length there are of which prices, without a cap.

For each row behind some letters there is one integer, with a field of some bits for each number that can be spent on
the way there, that of the least number lowest. So what is spent on the way to the next row is a shift.
"""

from lastprices.base.masks import ones_in
from lastprices.decide.layers import Layers

# A machine keeps no more lowered rows than that.
MAX_KEPT = 5000
# Lowered rows have codes of so many bits at first, or of fewer where these are enough.
BITS = 1000
# If there are at most so many bits in all, it is not asked how many of them are needed.
FEW_BITS = 300000
# Beyond so many bits for each number of texts that is not 0, these numbers are kept one by one instead.
SPARE_BITS = 4000
# Less than any sum of prices, in the place of the greatest price of texts where none is taken.
NONE = -1000000


def lowered_layers(machine, length):
    """The layers of the lowered rows of a machine, as far as texts with so many letters reach."""
    layers = machine.remembered("layers")
    if layers is None:
        layers = new_layers(machine, length)
    # If there are too many rows, nothing is kept.
    machine.remember("layers", None)
    layers.grow_to(length)
    if len(layers.row_codes) <= MAX_KEPT:
        machine.remember("layers", layers)
    return layers


def new_layers(machine, length):
    """Layers of lowered rows, with codes for texts with so many letters, unless these codes are very long."""
    dearest = max([move[2] for letter in machine.letters for move in machine.moves(letter)], default=0)
    return Layers(machine, max(min(dearest * length, BITS // len(machine)), dearest), True)


def field_bits(letters, length):
    """How many bits the number of texts with so many of some letters can have, a multiple of four."""
    return (max(letters - 1, 0).bit_length() * length + 4) // 4 * 4


def shifts_for(layers, base, bits):
    """By letters, then by the numbers of rows: the shifts for all falls, less what all of them have at least."""
    return [[max(fall - base, 0) * bits for fall in falls] for falls in layers.falls]


def sums_to(layers, length, shifts):
    """The list of pairs of a row behind so many letters and of the sum of what comes there, shifted by falls if told.

    What comes to the first row is 1.
    """
    if layers.is_steady:
        sums = [1]
        for at in range(length):
            sums = _steady_sums(layers.leads, shifts, sums, layers.ends[at + 1])
        return list(enumerate(sums))
    sums = {0: 1}
    for _ in range(length):
        sums = _other_sums(layers.leads, shifts, sums)
    return list(sums.items())


def numbers_by_prices(layers, length):
    """A dict from the prices of the taken texts with so many letters to the numbers of such texts, ascending."""
    prices = layers.codes.prices_at(layers.row_codes)
    if layers.top_fall == 0:
        return _numbers_at([(prices[row], 0, number) for row, number in sums_to(layers, length, None)])
    bits = field_bits(len(layers.leads), length)
    base = _least_fall(layers)
    fields = (layers.top_fall - base) * length + 1
    if layers.size_at(length) * fields * bits > FEW_BITS and _is_spread_out(layers, length, bits):
        found = _sums_one_by_one(layers, length, base, fields)
        return _numbers_at([(prices[place // fields], place % fields + base * length, number)
            for place, number in found.items()])
    sums = sums_to(layers, length, shifts_for(layers, base, bits))
    total = sum([value << prices[row] * bits for row, value in sums if prices[row] >= 0])
    numbers = _fields_of(total, bits)
    return _numbers_at([(0, price, number) for price, number in enumerate(numbers, start=base * length)])


def bests_to(layers, length):
    """By numbers of letters that are left, then by rows: the greatest price of what can still be read.

    It is NONE, or less than 0, where nothing that is taken can be read.
    """
    ends = [price if price >= 0 else NONE for price in layers.prices(length)]
    bests = [ends if layers.is_steady else dict(zip(layers.lists[length], ends))]
    for at in reversed(range(length)):
        behind = bests[-1]
        best = [NONE] * layers.size_at(at)
        for laters, falls in zip(layers.leads, layers.falls):
            if not layers.is_steady:
                laters, falls = layers.told_of(laters, at), layers.told_of(falls, at)
            told = [behind[later] + fall for later, fall, _ in zip(laters, falls, best)]
            best = [one if one > two else two for one, two in zip(told, best)]
        bests.append(best if layers.is_steady else dict(zip(layers.lists[at], best)))
    return bests


def _steady_sums(leads, shifts, values, many):
    """The list of the sums of what comes to so many rows behind one more letter, if layers are steady."""
    sums = [0] * many
    if shifts is None:
        for laters in leads:
            for later, value in zip(laters, values):
                sums[later] = sums[later] + value
    else:
        for laters, told in zip(leads, shifts):
            for later, shift, value in zip(laters, told, values):
                sums[later] = sums[later] + (value << shift)
    return sums


def _other_sums(leads, shifts, values):
    """A dict from rows behind one more letter to the sums of what comes to them, by such a dict for the rows before."""
    sums = {}
    if shifts is None:
        for row, value in values.items():
            for laters in leads:
                later = laters[row]
                sums[later] = sums.get(later, 0) + value
    else:
        for row, value in values.items():
            for laters, told in zip(leads, shifts):
                later = laters[row]
                sums[later] = sums.get(later, 0) + (value << told[row])
    return sums


def _least_fall(layers):
    """The least fall on the way to rows with any way."""
    nowhere = layers.nowhere()
    return min([fall for laters, falls in zip(layers.leads, layers.falls) for row, fall in zip(laters, falls)
        if row != nowhere])


def _is_spread_out(layers, length, bits):
    """Whether there are too few numbers of texts for fields of so many bits."""
    masks = [1]
    for at in range(length):
        masks = layers.masks_behind(masks, at)
    needed = sum([ones_in(mask) for mask in masks])
    return sum([mask.bit_length() for mask in masks]) * bits > SPARE_BITS * needed


def _fields_of(number, bits):
    """The list of the fields of an integer, the lowest one first."""
    figures = bits // 4
    text = f"{number:x}"
    many = (len(text) + figures - 1) // figures
    text = text.zfill(many * figures)
    return [int(text[at * figures:(at + 1) * figures], 16) for at in reversed(range(many))]


def _numbers_at(found):
    """A dict from prices to numbers of texts, by triples of the price in a row, what was spent before, and a number."""
    numbers = {}
    for price, spent, number in found:
        if price >= 0 and number > 0:
            numbers[price + spent] = numbers.get(price + spent, 0) + number
    return {price: numbers[price] for price in sorted(numbers)}


def _sums_one_by_one(layers, length, base, fields):
    """A dict from rows behind so many letters, and what was spent, to numbers of texts; both are kept as one number."""
    nowhere = layers.nowhere()
    pairs = list(zip(layers.leads, layers.falls))
    moves = [[(laters[row] - row) * fields + falls[row] - base for laters, falls in pairs if laters[row] != nowhere]
        for row in range(len(layers.leads[0]))]
    found = {0: 1}
    for _ in range(length):
        found = _behind_one_by_one(found, moves, fields)
    return found


def _behind_one_by_one(found, moves, fields):
    """The numbers behind one more letter."""
    behind = {}
    for place, number in found.items():
        for move in moves[place // fields]:
            later = place + move
            behind[later] = behind.get(later, 0) + number
    return behind
