"""The tight span: functions above the distances, tight ones, and the vertices and edges of all tight ones."""

from metricparts.errors import Malformed, Refused
from metricparts.linear import rank, solve
from metricparts.metric import is_numbers, pairs_of
from metricparts.ratio import Ratio, as_ratio, at_most, greatest, one, zero
from metricparts.simplex import whole_factor

# The vertices and edges are told for at most as many points.
MOST_POINTS = 5


def function_of(m, f):
    """Return a function as a tuple of Ratio objects; raise Malformed for every other value."""
    if not is_numbers(f) or len(f) != m.n:
        raise Malformed("this is no function of the points")
    return tuple([as_ratio(item) for item in f])


def is_above(m, f):
    """Tell if f(x) + f(y) is at least the distance for all x and y."""
    numbers = function_of(m, f)
    points = range(m.n)
    return all([at_most(m.distance(x, y), numbers[x] + numbers[y]) for x in points for y in points])


def equalities(m, numbers):
    """Return the list of the pairs x <= y with f(x) + f(y) = d(x, y)."""
    pairs = [(x, x) for x in range(m.n)] + pairs_of(m.n)
    return [(x, y) for x, y in pairs if numbers[x] + numbers[y] == m.distance(x, y)]


def is_tight(m, f):
    """Tell if the function is above the distances, and each point has an equality."""
    numbers = function_of(m, f)
    found = equalities(m, numbers)
    return is_above(m, numbers) and all([any([x in pair for pair in found]) for x in range(m.n)])


def pushed_down(m, f):
    """Return the tight function that is got by making the items as small as they may be, in turn."""
    numbers = list(function_of(m, f))
    if not is_above(m, numbers):
        raise Refused("above")
    for x in range(m.n):
        others = [m.distance(x, y) - numbers[y] for y in range(m.n) if y != x]
        numbers[x] = greatest([zero()] + others)
    return tuple(numbers)


def span_distance(m, f, g):
    """Return the greatest difference of the items of two functions at one point."""
    first, second = function_of(m, f), function_of(m, g)
    return greatest([(a - b).absolute() for a, b in zip(first, second)])


def check_few(m):
    """Raise Refused if there are too many points for the vertices."""
    if m.n > MOST_POINTS:
        raise Refused("large")


def chosen(some, many):
    """Return the list of the lists of so many of some things, in their order."""
    if many == 0:
        return [[]]
    if len(some) < many:
        return []
    return [some[:1] + others for others in chosen(some[1:], many - 1)] + chosen(some[1:], many)


def edge_rows(n, pairs):
    """Return the list of the rows with 1 at both points of each pair, and 0 at the others.

    Their rank is n less the number of the components of the graph without an odd circle: in each of these, and in
    no other one, the items can change, along each edge by the opposite amounts.
    """
    return [tuple([one() if point in pair else zero() for point in range(n)]) for pair in pairs]


def told_by(m, pairs):
    """Return the only function with the equalities of these pairs of unlike points, or None."""
    rows = edge_rows(m.n, pairs)
    if rank(rows, m.n) < m.n:
        return None
    return solve(rows, m.n, [m.distance(x, y) for x, y in pairs])


def ascending_rows(rows):
    """Return the tuple of the rows in ascending order as tuples."""
    scale = whole_factor([item for row in rows for item in row])
    wholes = sorted([tuple([item.n * (scale // item.d) for item in row]) for row in rows])
    return tuple([tuple([Ratio(item, scale) for item in row]) for row in wholes])


def span_vertices(m):
    """Return the ascending tuple of the vertices of the tight span."""
    check_few(m)
    # A vertex with a loop is the row of a point; every other one is told by n edges.
    found = list(m.rows)
    for pairs in chosen(pairs_of(m.n), m.n):
        f = told_by(m, pairs)
        if f is not None and f not in found and is_above(m, f):
            found.append(f)
    return ascending_rows(found)


def are_joined(m, f, g):
    """Tell if the graph of the common equalities of two vertices has one component without an odd circle."""
    others = equalities(m, g)
    common = [pair for pair in equalities(m, f) if pair in others]
    return rank(edge_rows(m.n, common), m.n) == m.n - 1


def span_edges(m):
    """Return the ascending tuple of the pairs of indexes of vertices that are joined."""
    vertices = span_vertices(m)
    return tuple([(i, k) for i, k in pairs_of(len(vertices)) if are_joined(m, vertices[i], vertices[k])])
