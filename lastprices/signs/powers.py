"""Products and powers of costs, by their rows.

A power with a great number is not made of all products on the way to it. Among the ways that have just so many steps
in all there is a cheapest one of this form: it goes round one ring of at most as many steps as there are states,
and has besides only steps whose number does not depend on any price. For its steps beside the ring are those of a
way without rings, of one ring for each state that is new to it, and of fewer other rings than the cheapest ring of
all has steps: of so many rings some have together a multiple of its steps, and can be replaced by it. For N states
these are at most 2 * N * (N - 1) steps, ahead of the ring and behind it.
"""


def unit_rows(many):
    """The rows of the costs of the empty text for so many states, which change none in a product."""
    return tuple([tuple([0 if number == start else -1 for number in range(many)]) for start in range(many)])


def product_rows(one, other):
    """The rows of the product of two costs, by their rows."""
    steps = [[(later, cost) for later, cost in enumerate(row) if cost >= 0] for row in other]
    return tuple([_row_behind(row, steps) for row in one])


def power_of(rows, number):
    """The rows of the product of so many of the same costs, at least one of them."""
    around = 1
    while around < 2 * len(rows) * (len(rows) - 1):
        around = around * 2
    if number < 4 * around:
        return _power_by_squares(rows, number)
    return _power_by_rings(rows, number, around)


def _row_behind(row, steps):
    """A row of a product, by that row of the first costs and the entries of the second ones where there are ways."""
    prices = [-1 for _ in row]
    for state, price in enumerate(row):
        if price >= 0:
            for later, cost in steps[state]:
                total = price + cost
                if prices[later] < 0 or total < prices[later]:
                    prices[later] = total
    return tuple(prices)


def _power_by_squares(rows, number):
    """A power by squares, from the highest bit of the number on."""
    made = rows
    for digit in f"{number:b}"[1:]:
        made = product_rows(made, made)
        if digit == "1":
            made = product_rows(made, rows)
    return made


def _power_by_rings(rows, number, around):
    """A power of ways that have at least `around` steps ahead of a ring, and behind it."""
    ahead = _power_by_squares(rows, around)
    # The powers with up to as many more steps as a ring can have, which come behind the ring.
    behind = [ahead]
    while len(behind) < len(rows):
        behind.append(product_rows(behind[-1], rows))
    best = tuple([tuple([-1 for _ in row]) for row in rows])
    rings = rows
    for steps in range(1, len(rows) + 1):
        rounds = (number - 2 * around) // steps
        rest = number - 2 * around - rounds * steps
        prices = [rings[state][state] for state in range(len(rows))]
        best = _lesser(best, product_rows(_with_rounds(ahead, prices, rounds), behind[rest]))
        rings = product_rows(rings, rows)
    return best


def _with_rounds(rows, prices, rounds):
    """The rows with so many rounds of the rings that lead from each state to itself, by their prices."""
    return tuple([
        tuple([price + rounds * ring if price >= 0 and ring >= 0 else -1 for price, ring in zip(row, prices)])
        for row in rows])


def _lesser(one, other):
    """The rows with the lesser one of two prices in each place, where there is one."""
    return tuple([
        tuple([max(price, cost) if price < 0 or cost < 0 else min(price, cost) for price, cost in zip(row, beside)])
        for row, beside in zip(one, other)])
