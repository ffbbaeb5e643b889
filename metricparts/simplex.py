"""Weights or a functional against them, by the simplex method with the rule of Bland.

Only whole numbers are reckoned with. Each column and the right side is first multiplied by a number above 0
that makes it whole. The rows of the table are those of the inverse of the basis with the right side in the
basis behind them, all of them multiplied by one number, the scale; it is the amount of the determinant of
the basis, and so every item stays whole.
"""

from math import lcm

from metricparts.ratio import Ratio


def feasible(columns, right):
    """Return ("weights", weights) with the sum right, or ("functional", row) with a row against them."""
    # Places with a negative right side are turned, so that the added columns can begin with weights from 0 on.
    signs = [-1 if number.sign() < 0 else 1 for number in right]
    factors = [whole_factor(column) for column in columns]
    wholes = [whole_row(column, factor, signs) for column, factor in zip(columns, factors)]
    bottom = whole_factor(right)
    rows, basis, scale = last_table(wholes, whole_row(right, bottom, signs))
    prices = added_sum(rows, basis)
    if prices[-1] > 0:
        return "functional", tuple([Ratio(price * sign) for price, sign in zip(prices[:-1], signs)])
    weights = [Ratio(0) for _ in columns]
    for row, index in zip(rows, basis):
        if index >= 0:
            weights[index] = Ratio(row[-1] * factors[index], scale * bottom)
    return "weights", tuple(weights)


def whole_factor(row):
    """Return a number above 0 that makes the row whole."""
    factor = 1
    for number in row:
        factor = lcm(factor, number.d)
    return factor


def whole_row(row, factor, signs):
    """Return the list of the integers of the row times the factor and the signs."""
    return [number.n * (factor // number.d) * sign for number, sign in zip(row, signs)]


def last_table(wholes, goal):
    """Return the rows, the basis and the scale with which the method ends."""
    size = len(goal)
    rows = [[1 if at == place else 0 for place in range(size)] + [goal[at]] for at in range(size)]
    # The added columns have the numbers below 0: they come before the others, and leave first.
    basis = list(range(-size, 0))
    scale = 1
    while True:
        prices = added_sum(rows, basis)
        entering = first_above(wholes, prices)
        if prices[-1] == 0 or entering is None:
            return rows, basis, scale
        change = [product_with(row, wholes[entering]) for row in rows]
        leaving = leaving_row(rows, basis, change)
        rows = next_rows(rows, change, leaving, scale)
        basis = basis[:leaving] + [entering] + basis[leaving + 1:]
        scale = change[leaving]


def added_sum(rows, basis):
    """Return the sum of the rows of the added columns: their prices, and the sum of their weights behind."""
    added = [row for row, index in zip(rows, basis) if index < 0]
    return [sum([row[place] for row in added]) for place in range(len(basis) + 1)]


def product_with(row, column):
    """Return the product of the column and the row without its last item."""
    return sum([a * b for a, b in zip(row[:-1], column)])


def first_above(wholes, prices):
    """Return the index of the first column that makes the sum of the added weights less, or None."""
    for index, column in enumerate(wholes):
        if product_with(prices, column) > 0:
            return index
    return None


def leaving_row(rows, basis, change):
    """Return the index of the row with the least quotient; of several, the one with the first column."""
    best = None
    for at in range(len(rows)):
        if change[at] > 0 and (best is None or leaves_before(rows, basis, change, at, best)):
            best = at
    return best


def leaves_before(rows, basis, change, at, best):
    """Tell if one row with a change above 0 is to leave before another one."""
    here = rows[at][-1] * change[best]
    there = rows[best][-1] * change[at]
    return here < there or (here == there and basis[at] < basis[best])


def next_rows(rows, change, leaving, scale):
    """Return the rows of the table after one step."""
    lead = rows[leaving]
    pivot = change[leaving]
    # The division leaves no rest: every item is a determinant of columns of the table.
    result = [
        [(pivot * item - factor * other) // scale for item, other in zip(row, lead)]
        for row, factor in zip(rows, change)
    ]
    result[leaving] = lead
    return result
