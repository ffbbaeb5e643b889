"""Rows of rational numbers: products, sums of multiples, the reduced rows and what follows from them."""

from metricparts.ratio import one, total, zero


def dot(v, w):
    """Return the product of two rows."""
    return total([a * b for a, b in zip(v, w)])


def multiple(row, factor):
    """Return the row times the number."""
    return tuple([item * factor for item in row])


def combine(rows, weights, width):
    """Return the sum of the rows times the weights, zeros without rows."""
    result = tuple([zero() for _ in range(width)])
    for row, weight in zip(rows, weights):
        result = tuple([have + item * weight for have, item in zip(result, row)])
    return result


def first_with(rows, place):
    """Return the index of the first row that has not 0 at the place, or None."""
    for at, row in enumerate(rows):
        if not row[place].is_zero():
            return at
    return None


def cleared(row, lead, place):
    """Return the row less the multiple of lead, which has 1 at the place, that makes its item there 0."""
    factor = row[place]
    if factor.is_zero():
        return row
    return tuple([item - factor * other for item, other in zip(row, lead)])


def reduced(rows, width):
    """Return the reduced tuple of rows with the span of the rows, and the tuple of its pivots."""
    left = list(rows)
    found = []
    pivots = []
    for place in range(width):
        at = first_with(left, place)
        if at is None:
            continue
        lead = multiple(left[at], one().over(left[at][place]))
        others = left[:at] + left[at + 1:]
        left = [cleared(row, lead, place) for row in others]
        found = [cleared(row, lead, place) for row in found] + [lead]
        pivots.append(place)
    return tuple(found), tuple(pivots)


def rank(rows, width):
    """Return the number of the reduced rows."""
    return len(reduced(rows, width)[1])


def kernel(rows, width):
    """Return independent rows that span the rows whose product with each of the rows is 0."""
    found, pivots = reduced(rows, width)
    free = [place for place in range(width) if place not in pivots]
    return tuple([kernel_row(found, pivots, place, width) for place in free])


def kernel_row(found, pivots, place, width):
    """Return the row of the kernel with 1 at a free place and 0 at the other free places."""
    result = [zero() for _ in range(width)]
    result[place] = one()
    for row, pivot in zip(found, pivots):
        result[pivot] = -row[place]
    return tuple(result)


def determinant(rows):
    """Return the determinant of as many rows as their length, 1 without rows."""
    left = list(rows)
    result = one()
    for place in range(len(rows)):
        at = first_with(left, place)
        if at is None:
            return zero()
        pivot = left[at][place]
        # The row passes as many others on its way to the front, and each of them turns the sign.
        result = result * (-pivot if at % 2 == 1 else pivot)
        lead = multiple(left[at], one().over(pivot))
        others = left[:at] + left[at + 1:]
        left = [cleared(row, lead, place) for row in others]
    return result


def solve(rows, width, right):
    """Return the row with these products with the rows and 0 at their free places, or None."""
    longer = [tuple(row) + (number,) for row, number in zip(rows, right)]
    found, pivots = reduced(longer, width + 1)
    # A pivot behind the rows stands for a sum of multiples of them that is 0, but not on the right side.
    if width in pivots:
        return None
    result = [zero() for _ in range(width)]
    for row, pivot in zip(found, pivots):
        result[pivot] = row[width]
    return tuple(result)
