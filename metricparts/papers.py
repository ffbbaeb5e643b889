"""Papers that show what a metric is, or is not; the checker accepts them."""

from metricparts.cuts import cut_functional, cut_weights
from metricparts.euclid import gram, negative_vector, squares_of
from metricparts.isometry import find_isometry
from metricparts.splits import decomposition
from metricparts.tree import failing_quadruple, tree_of
from metricparts.ultra import ball, failing_triple, heights


def tree_paper(metric):
    """Return a paper with the tree of the metric, or with four points without the four point condition."""
    points = failing_quadruple(metric)
    if points is not None:
        return ("points",) + points
    tree = tree_of(metric)
    return ("tree", tree.size, tree.edges)


def ultra_paper(metric):
    """Return a paper with the classes at each height, or with three points that bar an ultrametric."""
    points = failing_triple(metric)
    if points is not None:
        return ("points",) + points
    return ("levels", tuple([(height, classes_at(metric, height)) for height in heights(metric)]))


def classes_at(metric, height):
    """Return the tuple that tells, for each point, the first point at most so far from it."""
    return tuple([ball(metric, x, height)[0] for x in range(metric.n)])


def cut_paper(metric):
    """Return a paper with weights of splits, or with a functional against them."""
    weights = cut_weights(metric)
    if weights is None:
        return ("functional", cut_functional(metric))
    return ("cuts", weights)


def euclid_paper(metric):
    """Return a paper with the squares of the Gram matrix, or with a vector at which it is below 0."""
    rows = gram(metric)
    found = squares_of(rows)
    if found is None:
        return ("vector", negative_vector(rows))
    return ("euclid",) + found


def isometry_paper(a, b):
    """Return a paper with the least isometry, or one that tells that there is none."""
    if a.n != b.n:
        return ("sizes",)
    images = find_isometry(a, b)
    return ("unlike",) if images is None else ("isometric", images)


def split_paper(metric):
    """Return a paper with the split decomposition."""
    return ("splits",) + decomposition(metric)
