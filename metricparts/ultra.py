"""Ultrametrics, their hierarchies, and single linkage."""

from metricparts.errors import Refused
from metricparts.metric import Metric
from metricparts.ratio import ascending, at_most, greatest, least, less


def failing_triple(m):
    """Return the least points (x, y, z) with d(x, z) above d(x, y) and d(y, z), or None."""
    points = range(m.n)
    for x, y, z in [(x, y, z) for x in points for y in points for z in points]:
        if less(greatest([m.distance(x, y), m.distance(y, z)]), m.distance(x, z)):
            return (x, y, z)
    return None


def is_ultrametric(m):
    """Tell if the metric is an ultrametric."""
    return failing_triple(m) is None


def heights(m):
    """Return the ascending list of the unlike distances of unlike points."""
    found = []
    for number in ascending(m.pairs()):
        if not found or found[-1] != number:
            found.append(number)
    return found


def ball(m, x, height):
    """Return the ascending tuple of the points at most so far from a point."""
    return tuple([y for y in range(m.n) if at_most(m.distance(x, y), height)])


def hierarchy(m):
    """Return the tuple of the pairs of the height and the points of each set, ascending."""
    if not is_ultrametric(m):
        raise Refused("ultrametric")
    found = []
    for height in heights(m):
        for x in range(m.n):
            members = ball(m, x, height)
            # A set is told at its first point, and at its height, not again at greater ones.
            if members[0] == x and height in m.rows[x]:
                found.append((height, members))
    return tuple(found)


def single_linkage(m):
    """Return the greatest ultrametric that is at most the metric."""
    rows = m.rows
    for middle in range(m.n):
        rows = [[step_way(row[y], row[middle], rows[middle][y]) for y in range(m.n)] for row in rows]
    return Metric(rows)


def step_way(have, first, second):
    """Return the lesser one of a greatest step and that of the way through two others."""
    return least([have, greatest([first, second])])
