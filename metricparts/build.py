"""Ways to build metrics: from graphs and rows of numbers, from other metrics, and from splits."""

from metricparts.errors import Malformed, Refused
from metricparts.metric import MOST, Metric, is_numbers
from metricparts.ratio import as_ratio, greatest, is_integer, is_rational, least, less, one, total, zero


def is_above_zero(value):
    """Tell if the value is a number above 0."""
    return is_rational(value) and as_ratio(value).sign() > 0


def is_count(value):
    """Tell if the value is an integer from 1 on."""
    return is_integer(value) and value >= 1


def is_edge(value, n):
    """Tell if the value is an edge of a graph with n points, with a length above 0."""
    if not isinstance(value, tuple) or len(value) != 3:
        return False
    x, y, length = value
    if not all([is_integer(end) and 0 <= end < n for end in (x, y)]):
        return False
    return x != y and is_above_zero(length)


def check_size(n):
    """Raise Refused if there are too many points."""
    if n > MOST:
        raise Refused("large")


def check_factor(value):
    """Raise Malformed if the value is no number above 0."""
    if not is_above_zero(value):
        raise Malformed("this is no number above 0")


def check_lengths(lengths, fewest):
    """Raise Malformed if the value is no list or tuple of at least so many numbers above 0."""
    if not isinstance(lengths, (list, tuple)) or len(lengths) < fewest:
        raise Malformed("this is no list of as many lengths")
    if not all([is_above_zero(length) for length in lengths]):
        raise Malformed("a length is no number above 0")


def check_alike(a, b):
    """Raise Malformed if two metrics have unlike numbers of points."""
    if a.n != b.n:
        raise Malformed("the numbers of points are unlike")


def from_graph(n, edges):
    """Return the metric of the least lengths of paths in a connected graph."""
    if not is_count(n):
        raise Malformed("this is no number of points")
    check_size(n)
    if not isinstance(edges, (list, tuple)) or not all([is_edge(edge, n) for edge in edges]):
        raise Malformed("these are no edges of the graph")
    rows = shortest(edge_table(n, edges))
    if any([length is None for row in rows for length in row]):
        raise Refused("connected")
    return Metric(rows)


def edge_table(n, edges):
    """Return the table of the lengths of the shortest edges, None where there is none."""
    table = [[zero() if x == y else None for y in range(n)] for x in range(n)]
    for start, end, length in edges:
        number = as_ratio(length)
        if table[start][end] is None or less(number, table[start][end]):
            table[start][end] = number
            table[end][start] = number
    return table


def shortest(table):
    """Return the table of the least lengths of paths, None where there is none."""
    for middle in range(len(table)):
        table = [[shorter(row[y], row[middle], table[middle][y]) for y in range(len(row))] for row in table]
    return table


def shorter(have, first, second):
    """Return the lesser one of a length and the sum of two others, of which each may be None."""
    if first is None or second is None:
        return have
    way = first + second
    return way if have is None or less(way, have) else have


def path(lengths):
    """Return the metric of points on a line with these distances of neighbours."""
    check_lengths(lengths, 0)
    return from_graph(len(lengths) + 1, [(at, at + 1, length) for at, length in enumerate(lengths)])


def cycle(lengths):
    """Return the metric of points on a circle with these lengths of edges, by the shorter way round."""
    check_lengths(lengths, 3)
    edges = [(at, (at + 1) % len(lengths), length) for at, length in enumerate(lengths)]
    return from_graph(len(lengths), edges)


def star(lengths):
    """Return the metric of the ends of a star with these lengths."""
    check_lengths(lengths, 1)
    check_size(len(lengths))
    arms = [as_ratio(length) for length in lengths]
    points = range(len(arms))
    return Metric([[zero() if x == y else arms[x] + arms[y] for y in points] for x in points])


def complete(n, length):
    """Return the metric with one distance of all unlike points."""
    if not is_count(n):
        raise Malformed("this is no number of points")
    check_factor(length)
    check_size(n)
    return Metric([[zero() if x == y else length for y in range(n)] for x in range(n)])


def l1_points(points):
    """Return the metric of the l1 distances of rows of numbers."""
    if not isinstance(points, (list, tuple)) or len(points) == 0:
        raise Malformed("this is no list of points")
    if not all([is_numbers(point) for point in points]):
        raise Malformed("a point is no row of numbers")
    if not all([len(point) == len(points[0]) for point in points]):
        raise Malformed("the points are rows of unlike lengths")
    check_size(len(points))
    rows = [[as_ratio(item) for item in point] for point in points]
    # Two equal points have the distance 0, which the metric refuses.
    return Metric([[l1_distance(first, second) for second in rows] for first in rows])


def l1_distance(v, w):
    """Return the sum of the amounts of the differences of the items of two rows."""
    return total([(a - b).absolute() for a, b in zip(v, w)])


def scaled(m, factor):
    """Return the metric multiplied by a number above 0."""
    check_factor(factor)
    number = as_ratio(factor)
    return Metric([[item * number for item in row] for row in m.rows])


def truncated(m, bound):
    """Return the metric of the lesser ones of the distances and a number above 0."""
    check_factor(bound)
    number = as_ratio(bound)
    return Metric([[least([item, number]) for item in row] for row in m.rows])


def restricted(m, points):
    """Return the metric of some of the points, numbered in the order in which they are told."""
    if not isinstance(points, (list, tuple)) or not 1 <= len(points) <= m.n:
        raise Malformed("this is no list of one or more unlike points")
    if not all([m.is_point(point) for point in points]) or any([points.count(point) > 1 for point in points]):
        raise Malformed("these are no points of the metric, each at most once")
    return Metric([[m.distance(x, y) for y in points] for x in points])


def added(a, b):
    """Return the sum of two metrics on as many points."""
    check_alike(a, b)
    return Metric([[v + w for v, w in zip(row, other)] for row, other in zip(a.rows, b.rows)])


def greater(a, b):
    """Return the metric of the greater distances of two metrics on as many points."""
    check_alike(a, b)
    return Metric([[greatest([v, w]) for v, w in zip(row, other)] for row, other in zip(a.rows, b.rows)])


def product(a, b):
    """Return the metric of the pairs of points of two metrics, with the sums of both distances."""
    check_size(a.n * b.n)
    return Metric([[v + w for v in row for w in other] for row in a.rows for other in b.rows])


def extended(m, distances):
    """Return the metric with one point more, which has these distances to the others."""
    if not is_numbers(distances) or len(distances) != m.n:
        raise Malformed("these are no distances to all points")
    longer = [list(row) + [item] for row, item in zip(m.rows, distances)]
    return Metric(longer + [list(distances) + [zero()]])


def check_points(n):
    """Raise Malformed if the value is no integer from 1 to 8."""
    if not is_count(n) or n > MOST:
        raise Malformed("this is no number of points from 1 to 8")


def ascending_from(start, n):
    """Return the list of the ascending tuples, in ascending order, of points from start to n - 1."""
    found = []
    for first in range(start, n):
        found.append((first,))
        found.extend([(first,) + others for others in ascending_from(first + 1, n)])
    return found


def splits(n):
    """Return the tuple of the splits of n points in ascending order."""
    check_points(n)
    return tuple(ascending_from(1, n))


def is_side(n, value):
    """Tell if the value is the ascending tuple of the points of a set that lacks 0, and is not empty."""
    if not isinstance(value, tuple) or len(value) == 0:
        return False
    if not all([is_integer(point) and 1 <= point < n for point in value]):
        return False
    return all([x < y for x, y in zip(value[:-1], value[1:])])


def cut_rows(n, split):
    """Return the rows of the pseudometric with 1 between points of unlike sets of the split."""
    check_points(n)
    if not is_side(n, split):
        raise Malformed("this is no split")
    points = range(n)
    return tuple([tuple([one() if (x in split) != (y in split) else zero() for y in points]) for x in points])


def cut_sum(n, weights):
    """Return the metric that is the sum of the cut rows of all splits, each times its weight."""
    every = splits(n)
    if not is_numbers(weights) or len(weights) != len(every):
        raise Malformed("these are no weights of all splits")
    numbers = [as_ratio(weight) for weight in weights]
    if any([number.sign() < 0 for number in numbers]):
        raise Malformed("a weight is below 0")
    points = range(n)
    return Metric([[apart_sum(every, numbers, x, y) for y in points] for x in points])


def apart_sum(some, weights, x, y):
    """Return the sum of the weights of the splits with one of two points."""
    return total([weight for split, weight in zip(some, weights) if (x in split) != (y in split)])
