"""Points of a metric: segments, medians, Gromov products, radius and centre, hyperbolicity."""

from metricparts.ratio import ascending, greatest, least, zero


def is_between(m, x, y, z):
    """Tell if y is between x and z."""
    return m.distance(x, y) + m.distance(y, z) == m.distance(x, z)


def between(m, x, z):
    """Return the ascending tuple of the points between two points."""
    return tuple([y for y in range(m.n) if is_between(m, x, y, z)])


def medians(m, x, y, z):
    """Return the ascending tuple of the points between any two of three points."""
    sides = ((x, y), (y, z), (x, z))
    return tuple([point for point in range(m.n) if all([is_between(m, a, point, b) for a, b in sides])])


def gromov(m, r, x, y):
    """Return the Gromov product of x and y at r."""
    return (m.distance(r, x) + m.distance(r, y) - m.distance(x, y)).half()


def eccentricity(m, x):
    """Return the greatest distance of a point to a point."""
    return greatest(m.rows[x])


def eccentricities(m):
    """Return the list of the greatest distances of all points."""
    return [eccentricity(m, x) for x in range(m.n)]


def radius(m):
    """Return the least eccentricity."""
    return least(eccentricities(m))


def diameter(m):
    """Return the greatest eccentricity."""
    return greatest(eccentricities(m))


def centre(m):
    """Return the ascending tuple of the points with the least eccentricity."""
    bound = radius(m)
    return tuple([x for x in range(m.n) if eccentricity(m, x) == bound])


def gap(m, x, y, u, v):
    """Return the difference of the two greatest ones of the three sums of distances of four points."""
    first = m.distance(x, y) + m.distance(u, v)
    second = m.distance(x, u) + m.distance(y, v)
    third = m.distance(x, v) + m.distance(y, u)
    _, middle, top = ascending([first, second, third])
    return top - middle


def fours(n):
    """Return the list of the ascending tuples of four unlike points, in ascending order."""
    points = range(n)
    return [(x, y, u, v) for x in points for y in range(x + 1, n) for u in range(y + 1, n) for v in range(u + 1, n)]


def gaps(m):
    """Return the list of the gaps of the ascending tuples of four unlike points, in their order."""
    return [gap(m, x, y, u, v) for x, y, u, v in fours(m.n)]


def hyperbolicity(m):
    """Return half the greatest gap of four points."""
    # With equal points the gap is 0, so only unlike ones are looked at.
    return greatest([zero()] + gaps(m)).half()


def widest(m):
    """Return the least ascending tuple of four unlike points with the greatest gap, or None."""
    found = gaps(m)
    if not found:
        return None
    return fours(m.n)[found.index(greatest(found))]
