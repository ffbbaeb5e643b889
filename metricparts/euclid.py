"""Euclidean spaces: Gram matrices, squares, vectors with a value below 0, coordinates, spheres and negative type."""

from metricparts.errors import Malformed, Refused
from metricparts.linear import cleared, determinant, dot, multiple, solve
from metricparts.metric import pairs_of
from metricparts.ratio import Ratio, one, total, zero


def square_table(m):
    """Return the rows of the squares of the distances."""
    return [[item * item for item in row] for row in m.rows]


def inner_rows(table):
    """Return the rows of (t(0, i) + t(0, j) - t(i, j)) / 2 for a table t, i and j from 1 on."""
    others = range(1, len(table))
    return tuple([tuple([(table[0][i] + table[0][j] - table[i][j]).half() for j in others]) for i in others])


def gram(m):
    """Return the Gram matrix."""
    return inner_rows(square_table(m))


def type_gram(m):
    """Return the type matrix, with the distances in the place of their squares."""
    return inner_rows(m.rows)


def next_place(left):
    """Return the place of the first item above 0 on the diagonal if none there is below 0, else None."""
    signs = [left[at][at].sign() for at in range(len(left))]
    if -1 in signs or 1 not in signs:
        return None
    return signs.index(1)


def eliminated(rows):
    """Return what elimination leaves of a symmetric matrix, and its steps: tuples of i, c and l."""
    left = list(rows)
    steps = []
    at = next_place(left)
    while at is not None:
        c = left[at][at]
        lead = multiple(left[at], one().over(c))
        # The matrix is symmetric, so c l_j is the item of the row j at this place.
        left = [cleared(row, lead, at) for row in left]
        steps.append((at, c, lead))
        at = next_place(left)
    return left, steps


def squares_of(rows):
    """Return the basis and the squares whose sum is a symmetric matrix, or None if some value is below 0."""
    left, steps = eliminated(rows)
    if not all([item.is_zero() for row in left for item in row]):
        return None
    basis = tuple([tuple([step[2][j] for step in steps]) for j in range(len(rows))])
    return basis, tuple([step[1] for step in steps])


def negative_vector(rows):
    """Return a tuple of numbers at which a symmetric matrix has a value below 0, or None."""
    left, steps = eliminated(rows)
    start = negative_start(left)
    if start is None:
        return None
    # Each l has 1 at its own place, and 0 at the places before: so its sum can be made 0 from the last one back.
    for at, _, lead in steps[::-1]:
        start[at] = -dot(lead, start)
    return tuple(start)


def negative_start(left):
    """Return a list with one or two items other than 0 at which what elimination left is below 0, or None."""
    for j in range(len(left)):
        if left[j][j].sign() < 0:
            return [one() if at == j else zero() for at in range(len(left))]
    # The diagonal is 0 by now.
    for j, k in pairs_of(len(left)):
        if not left[j][k].is_zero():
            start = [one() if at == j else zero() for at in range(len(left))]
            start[k] = Ratio(-left[j][k].sign())
            return start
    return None


def value_at(rows, x):
    """Return the value of a matrix at a row of numbers."""
    return dot(x, [dot(row, x) for row in rows])


def euclid_squares(m):
    """Return the basis and the squares of the Gram matrix; raise Refused if some value is below 0."""
    found = squares_of(gram(m))
    if found is None:
        raise Refused("euclid")
    return found


def is_euclidean(m):
    """Tell if the metric is that of points of a Euclidean space."""
    return squares_of(gram(m)) is not None


def dimension(m):
    """Return the least dimension of a Euclidean space with such points."""
    return len(euclid_squares(m)[1])


def coordinates(m):
    """Return the basis, with a row for each point, and the squares."""
    basis, squares = euclid_squares(m)
    origin = tuple([zero() for _ in squares])
    return (origin,) + basis, squares


def sphere(m):
    """Return the square of the radius of the sphere through all points, or None if there is none."""
    euclid_squares(m)
    rows = gram(m)
    doubled = [multiple(row, Ratio(2)) for row in rows]
    y = solve(doubled, len(rows), [rows[at][at] for at in range(len(rows))])
    return None if y is None else value_at(rows, y)


def is_negative_type(m):
    """Tell if the metric is of negative type."""
    return squares_of(type_gram(m)) is not None


def positive_weights(m):
    """Return numbers with the sum 0 and a sum of b_i b_j d(i, j) above 0, or None."""
    found = negative_vector(type_gram(m))
    if found is None:
        return None
    return (-total(found),) + found


def cayley_menger(m, points):
    """Return the Cayley-Menger determinant of a list or tuple of at least one point."""
    if not isinstance(points, (list, tuple)) or len(points) == 0:
        raise Malformed("this is no list of points")
    if not all([m.is_point(point) for point in points]):
        raise Malformed("these are no points of the metric")
    table = square_table(m)
    top = (zero(),) + tuple([one() for _ in points])
    return determinant([top] + [(one(),) + tuple([table[x][y] for y in points]) for x in points])
