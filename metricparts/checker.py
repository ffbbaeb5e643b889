"""The checker: it tells of each paper, from the distances alone, if it shows what it says."""

from metricparts.build import apart_sum, is_side, splits
from metricparts.linear import dot
from metricparts.metric import pairs_of
from metricparts.ratio import Ratio, ascending, greatest, is_integer, least, less, total, zero


def is_form(paper, word, size):
    """Tell if a paper is a tuple of so many items, the first of which is the word."""
    return isinstance(paper, tuple) and len(paper) == size and paper[0] == word


def is_positive(value):
    """Tell if a value is a Ratio above 0."""
    return isinstance(value, Ratio) and value.sign() > 0


def is_row(value, size):
    """Tell if a value is a tuple of so many Ratio objects."""
    if not isinstance(value, tuple) or len(value) != size:
        return False
    return all([isinstance(item, Ratio) for item in value])


def is_table(value, height, width):
    """Tell if a value is a tuple of so many tuples of so many Ratio objects."""
    if not isinstance(value, tuple) or len(value) != height:
        return False
    return all([is_row(row, width) for row in value])


def are_points(metric, values):
    """Tell if all of the values are points of the metric."""
    return all([metric.is_point(value) for value in values])


def takes_tree(metric, paper):
    """Tell if a paper shows that the metric is that of a tree, or that it is not."""
    if is_form(paper, "tree", 3):
        return shows_tree(metric, paper[1], paper[2])
    if is_form(paper, "points", 5):
        return bars_tree(metric, paper[1:])
    return False


def shows_tree(metric, size, edges):
    """Tell if the edges are those of a tree with so many vertices and the distances of the metric."""
    if not is_integer(size) or not metric.n <= size <= 2 * metric.n:
        return False
    if not isinstance(edges, tuple) or len(edges) != size - 1:
        return False
    if not all([is_tree_edge(edge, size) for edge in edges]):
        return False
    # As many edges that join all vertices leave one way alone between any two.
    ways = [ways_from(edges, size, x) for x in range(metric.n)]
    if None in ways[0]:
        return False
    return all([metric.distance(x, y) == ways[x][y] for x, y in pairs_of(metric.n)])


def is_tree_edge(value, size):
    """Tell if a value is a tuple of two ascending vertices and a length above 0."""
    if not isinstance(value, tuple) or len(value) != 3:
        return False
    x, y, length = value
    return is_integer(x) and is_integer(y) and 0 <= x < y < size and is_positive(length)


def ways_from(edges, size, start):
    """Return the list of the lengths of the ways from a vertex to each one, None where there is none."""
    found = [zero() if vertex == start else None for vertex in range(size)]
    for _ in range(size):
        for x, y, length in edges:
            if found[x] is None and found[y] is not None:
                found[x] = found[y] + length
            elif found[y] is None and found[x] is not None:
                found[y] = found[x] + length
    return found


def bars_tree(metric, points):
    """Tell if the greatest one of the three sums of distances of four points is above both others."""
    if not are_points(metric, points):
        return False
    x, y, u, v = points
    first = metric.distance(x, y) + metric.distance(u, v)
    second = metric.distance(x, u) + metric.distance(y, v)
    third = metric.distance(x, v) + metric.distance(y, u)
    sums = ascending([first, second, third])
    return less(sums[1], sums[2])


def takes_ultra(metric, paper):
    """Tell if a paper shows that the metric is an ultrametric, or that it is not."""
    if is_form(paper, "levels", 2):
        return shows_levels(metric, paper[1])
    if is_form(paper, "points", 4):
        return bars_levels(metric, paper[1:])
    return False


def shows_levels(metric, levels):
    """Tell if the distances are the heights of the first levels at which two points are in one class."""
    if not isinstance(levels, tuple) or not all([is_level(metric, level) for level in levels]):
        return False
    neighbours = list(zip(levels[:-1], levels[1:]))
    if not all([less(low[0], high[0]) for low, high in neighbours]):
        return False
    pairs = pairs_of(metric.n)
    if not all([stays_joined(low[1], high[1], x, y) for low, high in neighbours for x, y in pairs]):
        return False
    return all([metric.distance(x, y) == joined_at(levels, x, y) for x, y in pairs])


def is_level(metric, value):
    """Tell if a value is a tuple of a height above 0 and a tuple of a point for each point."""
    if not isinstance(value, tuple) or len(value) != 2 or not is_positive(value[0]):
        return False
    classes = value[1]
    return isinstance(classes, tuple) and len(classes) == metric.n and are_points(metric, classes)


def stays_joined(low, high, x, y):
    """Tell if two points that are in one class of the lower level are so in the higher one."""
    return low[x] != low[y] or high[x] == high[y]


def joined_at(levels, x, y):
    """Return the height of the first level at which two points are in one class, or None."""
    for height, classes in levels:
        if classes[x] == classes[y]:
            return height
    return None


def bars_levels(metric, points):
    """Tell if of three points the distance of the first and the last one is above both others."""
    if not are_points(metric, points):
        return False
    x, y, z = points
    return less(greatest([metric.distance(x, y), metric.distance(y, z)]), metric.distance(x, z))


def takes_cuts(metric, paper):
    """Tell if a paper shows that the metric is a cut sum, or that it is not."""
    if is_form(paper, "cuts", 2):
        return shows_cuts(metric, paper[1])
    if is_form(paper, "functional", 2):
        return bars_cuts(metric, paper[1])
    return False


def shows_cuts(metric, weights):
    """Tell if the distances are the sums of the weights of the splits with one of two points."""
    if not isinstance(weights, tuple) or not all([is_weight(metric.n, pair) for pair in weights]):
        return False
    some = [split for split, _ in weights]
    numbers = [number for _, number in weights]
    return all([metric.distance(x, y) == apart_sum(some, numbers, x, y) for x, y in pairs_of(metric.n)])


def is_weight(n, value):
    """Tell if a value is a tuple of a split and a weight above 0."""
    return isinstance(value, tuple) and len(value) == 2 and is_side(n, value[0]) and is_positive(value[1])


def bars_cuts(metric, values):
    """Tell if the numbers of the pairs have a sum of at most 0 for each split, and one above 0 with the distances."""
    pairs = pairs_of(metric.n)
    if not is_row(values, len(pairs)):
        return False
    for split in splits(metric.n):
        apart = [number for (x, y), number in zip(pairs, values) if (x in split) != (y in split)]
        if total(apart).sign() > 0:
            return False
    return dot(values, metric.pairs()).sign() > 0


def takes_euclid(metric, paper):
    """Tell if a paper shows that the metric is that of points of a Euclidean space, or that it is not."""
    if is_form(paper, "euclid", 3):
        return shows_squares(metric, paper[1], paper[2])
    if is_form(paper, "vector", 2):
        return bars_squares(metric, paper[1])
    return False


def inner_product(metric, i, j):
    """Return the item of the Gram matrix for two points."""
    left, right, across = metric.distance(0, i), metric.distance(0, j), metric.distance(i, j)
    return (left * left + right * right - across * across).half()


def shows_squares(metric, basis, squares):
    """Tell if the Gram matrix is the sum of the squares."""
    if not isinstance(squares, tuple) or not all([is_positive(square) for square in squares]):
        return False
    if not is_table(basis, metric.n - 1, len(squares)):
        return False
    for i in range(1, metric.n):
        stretched = [square * item for square, item in zip(squares, basis[i - 1])]
        if not all([dot(stretched, basis[j - 1]) == inner_product(metric, i, j) for j in range(1, metric.n)]):
            return False
    return True


def bars_squares(metric, values):
    """Tell if the Gram matrix has a value below 0 at the numbers."""
    if not is_row(values, metric.n - 1):
        return False
    others = range(1, metric.n)
    items = [values[i - 1] * inner_product(metric, i, j) * values[j - 1] for i in others for j in others]
    return total(items).sign() < 0


def takes_isometry(a, b, paper):
    """Tell if a paper shows an isometry, or if there is none, as it says."""
    if is_form(paper, "isometric", 2):
        return shows_isometry(a, b, paper[1])
    if is_form(paper, "unlike", 1):
        return a.n == b.n and not has_isometry(a, b, ())
    return is_form(paper, "sizes", 1) and a.n != b.n


def shows_isometry(a, b, images):
    """Tell if the images are each point of b once, one for each point of a, and all distances are kept."""
    if a.n != b.n or not isinstance(images, tuple) or len(images) != a.n:
        return False
    if not are_points(b, images):
        return False
    return all([may_follow(a, b, images[:x], images[x]) for x in range(a.n)])


def may_follow(a, b, images, image):
    """Tell if the next point of a may be placed at this image, behind those before it."""
    if image in images:
        return False
    x = len(images)
    return all([a.distance(y, x) == b.distance(images[y], image) for y in range(x)])


def has_isometry(a, b, images):
    """Tell if the points of a that are not yet placed can be placed with all distances kept."""
    if len(images) == a.n:
        return True
    for image in range(b.n):
        if may_follow(a, b, images, image) and has_isometry(a, b, images + (image,)):
            return True
    return False


def takes_splits(metric, paper):
    """Tell if a paper has all splits with an index above 0, their indexes, and the rest."""
    if not is_form(paper, "splits", 3):
        return False
    parts, rest = paper[1], paper[2]
    if not isinstance(parts, tuple) or not all([is_weight(metric.n, part) for part in parts]):
        return False
    if not is_table(rest, metric.n, metric.n):
        return False
    indexes = [(split, index_of(metric, split)) for split in splits(metric.n)]
    if list(parts) != [(split, index) for split, index in indexes if index.sign() > 0]:
        return False
    some = [split for split, _ in parts]
    numbers = [number for _, number in parts]
    points = range(metric.n)
    return all([metric.distance(x, y) == apart_sum(some, numbers, x, y) + rest[x][y] for x in points for y in points])


def index_of(metric, split):
    """Return half the least number by which the distances across the split are above those within, or 0."""
    others = [point for point in range(metric.n) if point not in split]
    found = []
    for inner in [(a, b) for a in split for b in split if a <= b]:
        found.extend([across_less_within(metric, inner, (u, v)) for u in others for v in others if u <= v])
    return greatest([zero(), least(found).half()])


def across_less_within(metric, inner, outer):
    """Return the greater sum of the distances across of two pairs, less the distances within them."""
    (a, b), (u, v) = inner, outer
    straight = metric.distance(a, u) + metric.distance(b, v)
    crossed = metric.distance(a, v) + metric.distance(b, u)
    return greatest([straight, crossed]) - metric.distance(a, b) - metric.distance(u, v)
