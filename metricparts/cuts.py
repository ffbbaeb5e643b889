"""Cut sums: weights, functionals, embeddings, possible splits, and hypermetric sums."""

from math import lcm

from metricparts.build import is_count, splits
from metricparts.errors import Malformed, Refused
from metricparts.linear import dot, rank
from metricparts.metric import pairs_of
from metricparts.ratio import Ratio, is_integer, one, total, zero
from metricparts.simplex import feasible

# Points of a cube have at most so many places, and at most so many tuples are tried.
MOST = 20000


def cut_columns(n):
    """Return the list of the cut rows of all splits, each of them for the pairs of points."""
    pairs = pairs_of(n)
    return [tuple([one() if (x in split) != (y in split) else zero() for x, y in pairs]) for split in splits(n)]


def cut_weights(m):
    """Return the pairs of a split and a weight above 0 with the sum m, or None."""
    kind, numbers = feasible(cut_columns(m.n), m.pairs())
    if kind == "functional":
        return None
    return tuple([(split, weight) for split, weight in zip(splits(m.n), numbers) if not weight.is_zero()])


def cut_functional(m):
    """Return a functional that is at most 0 on all cuts and above 0 on m, or None."""
    kind, numbers = feasible(cut_columns(m.n), m.pairs())
    return numbers if kind == "functional" else None


def l1_embedding(m):
    """Return points, rows of numbers, whose l1 distances are those of m, or None."""
    weights = cut_weights(m)
    if weights is None:
        return None
    return tuple([tuple([weight if x in split else zero() for split, weight in weights]) for x in range(m.n)])


def cube_embedding(m):
    """Return a number s and points of a cube that differ at s times as many places as their distance, or None."""
    weights = cut_weights(m)
    if weights is None:
        return None
    s = 1
    for _, weight in weights:
        s = lcm(s, weight.d)
    counts = [(split, weight.n * (s // weight.d)) for split, weight in weights]
    if sum([count for _, count in counts]) > MOST:
        raise Refused("large")
    return s, tuple([cube_point(counts, x) for x in range(m.n)])


def cube_point(counts, x):
    """Return the tuple that has, for each split, so many times 1 if the point is in it, and 0 otherwise."""
    found = []
    for split, count in counts:
        found.extend([1 if x in split else 0] * count)
    return tuple(found)


def possible_splits(m):
    """Return the ascending tuple of the splits that have a weight above 0 in some weights with the sum m."""
    columns = cut_columns(m.n)
    kind, numbers = feasible(columns, m.pairs())
    if kind == "functional":
        raise Refused("cuts")
    known = [True if weight.sign() > 0 else None for weight in numbers]
    for at in range(len(columns)):
        if known[at] is None:
            known = more_known(m, columns, known, at)
    return tuple([split for split, possible in zip(splits(m.n), known) if possible])


def more_known(m, columns, known, at):
    """Return for each split if it is possible, or None if that is not known yet; for the split at it is told."""
    negative = tuple([-number for number in m.pairs()])
    goal = tuple([-item for item in columns[at]])
    kind, numbers = feasible(columns + [negative], goal)
    if kind == "weights":
        # The split and these splits together are a multiple of m, so that all of them are possible.
        return [True if k == at or numbers[k].sign() > 0 else known[k] for k in range(len(columns))]
    # The functional is 0 on m, and so on each possible split.
    return [False if dot(numbers, columns[k]).sign() < 0 else known[k] for k in range(len(columns))]


def is_rigid(m):
    """Tell if m is the sum for one tuple of weights alone."""
    possible = possible_splits(m)
    columns = [column for column, split in zip(cut_columns(m.n), splits(m.n)) if split in possible]
    return rank(columns, len(m.pairs())) == len(columns)


def hypermetric_sum(m, b):
    """Return the sum of the products of the integers of two points and their distance, over all pairs."""
    if not isinstance(b, (list, tuple)) or len(b) != m.n or not all([is_integer(item) for item in b]):
        raise Malformed("these are no integers for all points")
    return total([m.distance(x, y) * Ratio(b[x] * b[y]) for x, y in pairs_of(m.n)])


def hypermetric_failure(m, bound):
    """Return the least tuple of integers up to the bound, with the sum 1, and a hypermetric sum above 0, or None."""
    if not is_count(bound):
        raise Malformed("this is no bound")
    many = 1
    for _ in range(m.n):
        many = many * (2 * bound + 1)
    if many > MOST:
        raise Refused("many")
    for start in starts(m.n - 1, bound):
        last = 1 - sum(start)
        if -bound <= last <= bound and hypermetric_sum(m, start + (last,)).sign() > 0:
            return start + (last,)
    return None


def starts(length, bound):
    """Return the ascending list of the tuples of integers up to the bound, of one length."""
    found = [()]
    for _ in range(length):
        found = [start + (item,) for start in found for item in range(-bound, bound + 1)]
    return found
