"""Isometries, similarities and the Gromov-Hausdorff distance of two metrics."""

from math import factorial

from metricparts.build import scaled
from metricparts.errors import Refused
from metricparts.points import diameter
from metricparts.ratio import greatest, less, one, zero

# The Gromov-Hausdorff distance is told for at most as many pairs of points.
MOST_PAIRS = 12


def keeps(a, b, images, image):
    """Tell if the next point of a may go to this image, after those before it went to theirs."""
    if image in images:
        return False
    x = len(images)
    return all([a.distance(x, y) == b.distance(image, other) for y, other in enumerate(images)])


def isometries_after(a, b, images, most):
    """Return the list of the isometries that begin with these images, in ascending order, at most so many."""
    if len(images) == a.n:
        return [images]
    found = []
    for image in range(b.n):
        if len(found) < most and keeps(a, b, images, image):
            found.extend(isometries_after(a, b, images + (image,), most - len(found)))
    return found


def isometries(a, b):
    """Return the ascending tuple of the isometries from a to b."""
    if a.n != b.n:
        return ()
    return tuple(isometries_after(a, b, (), factorial(a.n)))


def find_isometry(a, b):
    """Return the least isometry from a to b, or None."""
    if a.n != b.n:
        return None
    found = isometries_after(a, b, (), 1)
    return found[0] if found else None


def group(m):
    """Return the isometries of a metric to itself."""
    return isometries(m, m)


def similarity(a, b):
    """Return the factor and the least isometry from a times the factor to b, or None."""
    if a.n != b.n:
        return None
    factor = one() if a.n == 1 else diameter(b).over(diameter(a))
    images = find_isometry(scaled(a, factor), b)
    return None if images is None else (factor, images)


def hausdorff(a, b):
    """Return the Gromov-Hausdorff distance of two metrics."""
    if a.n * b.n > MOST_PAIRS:
        raise Refused("large")
    # Each correspondence contains one of a pair for each point of a and one for each point of b.
    choices = [[(x, y) for y in range(b.n)] for x in range(a.n)]
    choices = choices + [[(x, y) for x in range(a.n)] for y in range(b.n)]
    return least_distortion(a, b, choices, [], zero(), None).half()


def least_distortion(a, b, choices, chosen, worst, best):
    """Return the least distortion of the chosen pairs, with the distortion worst, and one of each further choice.

    best, unless it is None, is a distortion that was found before: it is returned if none is less.
    """
    if len(chosen) == len(choices):
        return worst
    for pair in choices[len(chosen)]:
        here = greatest([worst] + [difference(a, b, pair, other) for other in chosen])
        if best is None or less(here, best):
            best = least_distortion(a, b, choices, chosen + [pair], here, best)
    return best


def difference(a, b, pair, other):
    """Return the amount of the difference of the distances of two pairs."""
    return (a.distance(pair[0], other[0]) - b.distance(pair[1], other[1])).absolute()
