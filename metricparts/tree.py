"""Trees with lengths, the four point condition, and the tree of a metric."""

from metricparts.build import is_edge
from metricparts.errors import Malformed, Refused
from metricparts.metric import MOST, Metric
from metricparts.points import fours, gap, gromov
from metricparts.ratio import as_ratio, greatest, is_integer, zero


class Tree:
    """A tree with lengths: its points are the first n of its vertices, its edges tuples (x, y, length) with x < y."""

    def __init__(self, n, edges):
        if not is_integer(n) or not 1 <= n <= MOST:
            raise Malformed("this is no number of points from 1 to 8")
        # There are fewer vertices behind the points than points, since each belongs to three edges.
        if not isinstance(edges, (list, tuple)) or not n - 1 <= len(edges) <= 2 * n:
            raise Malformed("these are no edges, or not as many as a tree has")
        size = len(edges) + 1
        if not all([is_edge(edge, size) for edge in edges]):
            raise Malformed("an edge is no tuple of two unlike vertices and a length above 0")
        ordered = ordered_edges(edges)
        if None in lengths_from(ordered, size, 0):
            raise Malformed("the vertices are not all joined")
        if any([degree(ordered, vertex) < 3 for vertex in range(n, size)]):
            raise Malformed("a vertex behind the points has fewer than three edges")
        self.n = n
        self.size = size
        self.edges = ordered

    def __eq__(self, other):
        return isinstance(other, Tree) and self.n == other.n and self.edges == other.edges

    def distance(self, x, y):
        """Return the distance of two vertices."""
        return lengths_from(self.edges, self.size, x)[y]

    def metric(self):
        """Return the metric of the points."""
        return Metric([lengths_from(self.edges, self.size, x)[:self.n] for x in range(self.n)])

    def numbered(self):
        """Return the tree with its vertices behind the points in the order of their least triples."""
        return tree_of(self.metric())


def ordered_edges(edges):
    """Return the ascending tuple of the edges with x < y."""
    turned = [(min(x, y), max(x, y), as_ratio(length)) for x, y, length in edges]
    return tuple(sorted(turned, key=lambda edge: (edge[0], edge[1])))


def lengths_from(edges, size, start):
    """Return the list of the lengths of the ways from a vertex to each vertex, None where there is no way."""
    found = [None for _ in range(size)]
    found[start] = zero()
    left = [start]
    while left:
        here = left.pop()
        for x, y, length in edges:
            there = y if x == here else x
            if here in (x, y) and found[there] is None:
                found[there] = found[here] + length
                left.append(there)
    return found


def degree(edges, vertex):
    """Return the number of the edges of a vertex."""
    return len([edge for edge in edges if vertex in (edge[0], edge[1])])


def failing_quadruple(m):
    """Return the least ascending points for which the four point condition does not hold, or None."""
    # With equal points it always holds, by the triangle inequality.
    for x, y, u, v in fours(m.n):
        if not gap(m, x, y, u, v).is_zero():
            return (x, y, u, v)
    return None


def is_tree_metric(m):
    """Tell if the four point condition holds."""
    return failing_quadruple(m) is None


def tree_of(m):
    """Return the numbered tree with the metric."""
    if not is_tree_metric(m):
        raise Refused("tree")
    # A vertex is told by its distances to the points.
    vertices = list(m.rows)
    points = range(m.n)
    for x, y, z in [(x, y, z) for x in points for y in range(x + 1, m.n) for z in range(y + 1, m.n)]:
        place = median_row(m, x, y, z)
        if place not in vertices:
            vertices.append(place)
    return Tree(m.n, joined(vertices))


def median_row(m, x, y, z):
    """Return the tuple of the distances of the points to the median of three points in the tree."""
    ends = ((x, gromov(m, x, y, z)), (y, gromov(m, y, x, z)), (z, gromov(m, z, x, y)))
    return tuple([greatest([m.distance(w, end) - length for end, length in ends]) for w in range(m.n)])


def joined(vertices):
    """Return the list of the edges of the vertices: of those two without another one between them."""
    table = [[row_distance(first, second) for second in vertices] for first in vertices]
    some = range(len(table))
    return [(x, y, table[x][y]) for x in some for y in range(x + 1, len(table)) if is_joined(table, x, y)]


def row_distance(v, w):
    """Return the greatest difference of the distances of two vertices to a point."""
    return greatest([(a - b).absolute() for a, b in zip(v, w)])


def is_joined(table, x, y):
    """Tell if no other vertex is between two vertices."""
    others = [z for z in range(len(table)) if z not in (x, y)]
    return not any([table[x][z] + table[z][y] == table[x][y] for z in others])
