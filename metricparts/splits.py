"""Splits: isolation indexes, the split decomposition, and compatible splits."""

from metricparts.build import apart_sum, is_side, splits
from metricparts.errors import Malformed
from metricparts.ratio import greatest, least, zero

BOTH = (False, True)


def is_split(n, value):
    """Tell if the value is a split of n points."""
    return is_side(n, value)


def check_splits(n, values):
    """Raise Malformed if one of the values is no split of n points."""
    if not all([is_split(n, value) for value in values]):
        raise Malformed("this is no split")


def isolation_index(m, split):
    """Return the isolation index of a split of the points of a metric."""
    check_splits(m.n, [split])
    others = [x for x in range(m.n) if x not in split]
    # To exchange two points of one side changes nothing, so each two are looked at in one order.
    inner = [(a, b) for a in split for b in split if a <= b]
    outer = [(u, v) for u in others for v in others if u <= v]
    apart = least([excess(m, a, b, u, v) for a, b in inner for u, v in outer])
    return greatest([zero(), apart.half()])


def excess(m, a, b, u, v):
    """Return how much the distances across a split are above those within its sides."""
    across = greatest([m.distance(a, u) + m.distance(b, v), m.distance(a, v) + m.distance(b, u)])
    return across - m.distance(a, b) - m.distance(u, v)


def decomposition(m):
    """Return the pairs of a split and its index, for all indexes above 0, and the rest."""
    indexes = [(split, isolation_index(m, split)) for split in splits(m.n)]
    parts = tuple([(split, index) for split, index in indexes if not index.is_zero()])
    return parts, rest_rows(m, parts)


def rest_rows(m, parts):
    """Return the rows of the metric less the cuts times their indexes."""
    some = [split for split, _ in parts]
    weights = [index for _, index in parts]
    points = range(m.n)
    return tuple([tuple([m.distance(x, y) - apart_sum(some, weights, x, y) for y in points]) for x in points])


def sides_of(n, values):
    """Return the list, for each point, of the tuple that tells in which of the splits it is."""
    return [tuple([x in value for value in values]) for x in range(n)]


def are_compatible(n, one, two):
    """Tell if two splits are compatible."""
    check_splits(n, [one, two])
    sides = sides_of(n, [one, two])
    return not all([(first, second) in sides for first in BOTH for second in BOTH])


def are_weakly_compatible(n, one, two, three):
    """Tell if three splits are weakly compatible."""
    check_splits(n, [one, two, three])
    sides = sides_of(n, [one, two, three])
    return not any([bars(sides, first, second, third) for first, second, third in sides])


def bars(sides, first, second, third):
    """Tell if for a point on these sides each of three others is with it in one split, and apart in the others."""
    needed = [(first, not second, not third), (not first, second, not third), (not first, not second, third)]
    return all([side in sides for side in needed])


def is_totally_decomposable(m):
    """Tell if the rest is 0."""
    rest = decomposition(m)[1]
    return all([item.is_zero() for row in rest for item in row])
