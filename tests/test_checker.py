"""The checker: for each condition of each form a paper that breaks this one alone, and what each form means."""

import ast
import pathlib
import unittest
from fractions import Fraction
from itertools import combinations, permutations, product

from metricparts.build import complete, cut_sum, cycle, path, restricted, scaled, splits, star
from metricparts.checker import takes_cuts, takes_euclid, takes_isometry, takes_splits, takes_tree, takes_ultra
from metricparts.metric import Metric, read_metric
from metricparts.papers import cut_paper, euclid_paper, split_paper, tree_paper, ultra_paper
from metricparts.ratio import Ratio
from metricparts.simplex import feasible
from tests.helper import fraction, fractions_of, metrics, random_metric, row, rows, seeded, table
from tests.test_isometry import kept, some_pairs
from tests.test_splits import index_of
from tests.test_tree import long, way

ONE = Metric([[0]])
EDGE = path([1])
LINE = path([1, 2])
SQUARE = cycle([1, 1, 1, 1])
LEVELS = read_metric("4: 0 1 3 3; 1 0 3 3; 3 3 0 2; 3 3 2 0")
# Two and three points, joined across.
ACROSS = read_metric("5: 0 2 1 1 1; 2 0 1 1 1; 1 1 0 2 2; 1 1 2 0 2; 1 1 2 2 0")
R = Ratio(1)
T = Ratio(2)
HALF = Ratio(1, 2)
PACKAGE = pathlib.Path(__file__).resolve().parent.parent / "metricparts"


def edge(x, y, length=R):
    return (x, y, length)


def changed(random, paper):
    """Return a paper with one number, point, index or order changed, so that its kinds stay the same."""
    if isinstance(paper, Ratio):
        return paper + random.choice((Ratio(1), Ratio(-1), Ratio(1, 7), -paper, paper))
    if isinstance(paper, tuple) and paper:
        at = random.randrange(len(paper))
        kind = random.randrange(8)
        if kind == 0:
            return paper[:at] + paper[at + 1:]
        if kind == 1:
            return paper[:at] + paper[at:at + 1] + paper[at:]
        if kind == 2:
            return paper[:at] + paper[at + 1:] + paper[at:at + 1]
        return paper[:at] + (changed(random, paper[at]),) + paper[at + 1:]
    if isinstance(paper, int):
        return paper + random.choice((-1, 1, 2))
    return paper


class Cases(unittest.TestCase):
    def hold(self, takes, m, good, bad):
        """Hold that the good papers are accepted, and that the bad ones are not."""
        for paper in good:
            self.assertIs(takes(m, paper), True, paper)
        for paper in bad:
            self.assertIs(takes(m, paper), False, paper)

    def hold_changed(self, seed, most, many, takes, make, means):
        """Hold changed papers against what they mean, for metrics of up to so many points."""
        random = seeded(seed)
        kinds = []
        for m in metrics(seed, 4, most):
            for _ in range(many):
                paper = make(m)
                for _ in range(random.randint(1, 2)):
                    paper = (paper[0], *changed(random, paper[1:]))
                due = means(m, paper)
                self.assertIs(takes(m, paper), due, paper)
                kinds.append(due)
        return kinds


def means_tree(m, paper):
    """Tell what a paper of a tree means, of which the parts have their kinds."""
    n, d = m.n, table(m)
    if paper[0] == "points":
        if len(paper) != 5 or not all(0 <= x < n for x in paper[1:]):
            return False
        x, y, u, v = paper[1:]
        *_, middle, top = sorted([d[x][y] + d[u][v], d[x][u] + d[y][v], d[x][v] + d[y][u]])
        return middle < top
    if len(paper) != 3 or not isinstance(paper[1], int) or not isinstance(paper[2], tuple):
        return False
    _, size, edges = paper
    if not n <= size <= 2 * n or len(edges) != size - 1 or any(len(one) != 3 for one in edges):
        return False
    for x, y, length in edges:
        if isinstance(x, Ratio) or isinstance(y, Ratio) or not isinstance(length, Ratio):
            return False
        if not 0 <= x < y < size or length.n <= 0:
            return False
    if any(way(edges, 0, vertex) is None for vertex in range(size)):
        return False
    return all(long(edges, x, y) == d[x][y] for x, y in combinations(range(n), 2))


class Trees(Cases):
    def test_trees(self):
        ends = (edge(0, 1), edge(1, 2))
        good = [("tree", 2, (edge(0, 1),)), ("tree", 3, ends),
                # Further vertices may have one or two edges, and the edges any order.
                ("tree", 3, (edge(0, 2, HALF), edge(1, 2, HALF))), ("tree", 4, (*ends[::-1], edge(0, 3))),
                ("tree", 4, (edge(1, 3, HALF), edge(0, 2, Ratio(1, 3)), edge(2, 3, Ratio(1, 6))))]
        bad = [
            # Too few and too many vertices.
            ("tree", 1, ()), ("tree", 5, (*ends, edge(1, 3), edge(1, 4))), ("tree", 0, ()), ("tree", -1, ()),
            # Not as many edges as vertices less one, though all vertices are joined with the right lengths.
            ("tree", 2, (edge(0, 1), edge(0, 1))), ("tree", 3, ends + (edge(0, 1),)), ("tree", 2, ()),
            # Equal vertices, not ascending ones, none of the vertices.
            ("tree", 2, (edge(1, 0),)), ("tree", 3, (edge(0, 1), edge(2, 1))), ("tree", 2, (edge(0, 0),)),
            ("tree", 3, (edge(0, 1), edge(2, 2))), ("tree", 3, (edge(0, 1), edge(1, 3))), ("tree", 2, (edge(-1, 1),)),
            ("tree", 3, (edge(0, 1), edge(-1, 2))), ("tree", 2, (edge(-1, 0),)), ("tree", 3, (edge(0, 1), edge(-1, 0))),
            # No length above 0.
            ("tree", 3, (edge(0, 1), edge(1, 2, Ratio(0)))), ("tree", 3, (edge(0, 2, Ratio(0)), edge(1, 2))),
            ("tree", 3, (edge(0, 1), edge(1, 2, -R))), ("tree", 3, (edge(0, 2, -R), edge(1, 2, T))),
            # Not all joined: a vertex alone, two joined twice.
            ("tree", 3, (edge(0, 1), edge(0, 1))), ("tree", 4, (edge(0, 1), edge(2, 3), edge(2, 3))),
            ("tree", 3, (edge(0, 2), edge(0, 2))),
            # Another distance.
            ("tree", 2, (edge(0, 1, T),)), ("tree", 3, (edge(0, 2), edge(1, 2))),
            # Edges that are none, lists, and integers as lengths.
            ("tree", 2, ((0, 1),)), ("tree", 2, ((0, 1, R, R),)), ("tree", 2, ([0, 1, R],)), ("tree", 2, [edge(0, 1)]),
            ("tree", 2, ((0, 1, 1),)), ("tree", 2, ((False, True, R),)), ("tree", 2, ((0, True, R),)),
            ("tree", 2, (None,)),
            ("tree", 2, ((Ratio(0), 1, R),)), ("tree", 2, None), ("tree", Ratio(2), (edge(0, 1),)),
            ("tree", "2", (edge(0, 1),)), ("tree", 2, (edge(0, 1, "1"),)), ("tree", 2, (edge(0, 1, True),)),
            # Other words and lengths.
            ("edges", 2, (edge(0, 1),)), ("Tree", 2, (edge(0, 1),)), ("tree", (edge(0, 1),)), ("tree",), (),
            ("tree", 2, (edge(0, 1),), ()), ["tree", 2, (edge(0, 1),)],
        ]
        self.hold(takes_tree, EDGE, good, bad)
        self.hold(takes_tree, ONE, [("tree", 1, ()), ("tree", 2, (edge(0, 1, T),))],
                  [("tree", True, ()), ("tree", 0, ()), ("tree", 3, (edge(0, 1), edge(1, 2))), ("tree", 1, []),
                   ("tree", 2, ()), ("points", 0, 0, 0, 0)])

    def test_ways_of_several_edges(self):
        edges = (edge(0, 4), edge(1, 4, T), edge(2, 5), edge(3, 5, HALF), edge(4, 5, T))
        m = read_metric("4: 0 3 4 7/2; 3 0 5 9/2; 4 5 0 3/2; 7/2 9/2 3/2 0")
        good = [("tree", 6, some) for some in permutations(edges)]
        longer = [edge(x, y, length + HALF) for x, y, length in edges]
        bad = [("tree", 6, edges[:at] + (longer[at],) + edges[at + 1:]) for at in range(5)]
        bad += [("tree", 6, (edge(0, 5), edge(1, 4, T), edge(2, 5), edge(3, 5, HALF), edge(4, 5, T)))]
        self.hold(takes_tree, m, good, bad)
        line = path([1] * 7)
        edges = tuple(edge(at, at + 1) for at in range(7))
        self.hold(takes_tree, line, [("tree", 8, edges), ("tree", 8, edges[::-1])],
                  [("tree", 8, edges[:6] + (edge(6, 7, T),)), ("tree", 8, edges[1:] + (edge(0, 2),))])
        further = tuple(edge(0, at) for at in range(8, 16))
        self.hold(takes_tree, line, [("tree", 16, edges + further)], [("tree", 17, edges + further + (edge(0, 16),))])

    def test_points(self):
        good = [("points", *some) for some in permutations(range(4))]
        bad = [("points", 0, 1, 2, 2), ("points", 0, 0, 0, 0), ("points", 0, 1, 0, 1), ("points", 0, 1, 2, 4),
               ("points", -1, 1, 2, 3), ("points", 0, 1, 2), ("points", 0, 1, 2, 3, 0), ("points", False, 1, 2, 3),
               ("points", 0, True, 2, 3), ("points", Ratio(0), 1, 2, 3), ("points", "0", 1, 2, 3),
               ("points", (0, 1, 2, 3)),
               ("point", 0, 1, 2, 3), ["points", 0, 1, 2, 3], ("points", None, 1, 2, 3), ("points", 0, 1, [2], 3)]
        self.hold(takes_tree, SQUARE, good, bad)
        # Of the three sums the two greatest are equal, or all of them: no greatest one is above both others.
        for m in (LEVELS, complete(4, 1), star([1, 2, 3, 4]), path([1, 2, 3])):
            self.hold(takes_tree, m, [], good)
        self.hold(takes_tree, read_metric("4: 0 7 8 9; 7 0 10 11; 8 10 0 25/2; 9 11 25/2 0"), good, bad)

    def test_against_the_meaning(self):
        kinds = self.hold_changed(261, 6, 12, takes_tree, tree_paper, means_tree)
        self.assertGreater(min(kinds.count(True), kinds.count(False)), 10)
        random = seeded(262)
        for m in metrics(263, 3):
            for _ in range(12):
                paper = ("points", *random.choices(range(m.n + 1), k=4))
                self.assertIs(takes_tree(m, paper), means_tree(m, paper))


def means_ultra(m, paper):
    """Tell what a paper of an ultrametric means, of which the parts have their kinds."""
    n, d = m.n, table(m)
    if paper[0] == "points":
        if len(paper) != 4 or not all(0 <= x < n for x in paper[1:]):
            return False
        x, y, z = paper[1:]
        return d[x][z] > d[x][y] and d[x][z] > d[y][z]
    if len(paper) != 2 or not isinstance(paper[1], tuple):
        return False
    for level in paper[1]:
        if len(level) != 2 or not isinstance(level[0], Ratio) or level[0].n <= 0:
            return False
        if len(level[1]) != n or not all(0 <= point < n for point in level[1]):
            return False
    levels = [(fraction(height), classes) for height, classes in paper[1]]
    if any(levels[at][0] >= levels[at + 1][0] for at in range(len(levels) - 1)):
        return False
    for x, y in combinations(range(n), 2):
        joined = [classes[x] == classes[y] for _, classes in levels]
        if True not in joined or False in joined[joined.index(True):] or levels[joined.index(True)][0] != d[x][y]:
            return False
    return True


class Ultrametrics(Cases):
    def test_levels(self):
        low, middle, high = (R, (0, 0, 2, 3)), (T, (0, 0, 2, 2)), (Ratio(3), (1, 1, 1, 1))
        good = [("levels", (low, middle, high)), ("levels", ((R, (3, 3, 1, 0)), (T, (2, 2, 0, 0)), high)),
                # Levels at which nothing is joined anew.
                ("levels", ((HALF, (0, 1, 2, 3)), low, middle, high)),
                ("levels", (low, middle, high, (Ratio(9), (0, 0, 0, 0)))),
                ("levels", (low, (Ratio(3, 2), (2, 2, 0, 1)), middle, high))]
        bad = [
            # Heights that descend, are equal, or are not above 0.
            ("levels", (middle, low, high)), ("levels", (low, (R, (0, 0, 1, 2)), middle, high)),
            ("levels", (low, middle, high, high)), ("levels", ((Ratio(0), (0, 1, 2, 3)), low, middle, high)),
            ("levels", ((-R, (0, 1, 2, 3)), low, middle, high)), ("levels", (low, middle, high, (T, (0, 0, 0, 0)))),
            # Another height, too early, too late, never.
            ("levels", ((HALF, low[1]), middle, high)), ("levels", (low, middle, (Ratio(4), high[1]))),
            ("levels", ((R, (0, 0, 2, 2)), high)), ("levels", (low, middle)), ("levels", (low, high)), ("levels", ()),
            ("levels", (low, middle, (Ratio(3), (1, 1, 1, 0)))),
            # Points that are parted again, at the next level and later.
            ("levels", (low, (Ratio(3, 2), (0, 1, 2, 3)), middle, high)),
            ("levels", (low, middle, high, (Ratio(4), (0, 0, 0, 1)))),
            ("levels", (low, (T, (0, 1, 2, 2)), high)), ("levels", (low, middle, high, (Ratio(4), (0, 0, 0, 0)),
                                                                   (Ratio(5), (0, 1, 2, 3)))),
            # Classes that are no points, and not as many as the points.
            ("levels", (low, middle, (Ratio(3), (4, 4, 4, 4)))),
            ("levels", (low, middle, (Ratio(3), (-1, -1, -1, -1)))),
            ("levels", (low, middle, (Ratio(3), (1, 1, 1)))), ("levels", (low, middle, (Ratio(3), (1, 1, 1, 1, 1)))),
            ("levels", (low, middle, (Ratio(3), (True,) * 4))), ("levels", (low, middle, (Ratio(3), (R,) * 4))),
            ("levels", (low, middle, (Ratio(3), [1, 1, 1, 1]))), ("levels", (low, middle, (Ratio(3), "1111"))),
            ("levels", (low, middle, (Ratio(3), (None,) * 4))), ("levels", (low, middle, (Ratio(3), ((),) * 4))),
            # Levels that are no pairs, integers as heights, lists.
            ("levels", (low, middle, (3, (1, 1, 1, 1)))), ("levels", (low, middle, high[:1])),
            ("levels", (low, middle, None)),
            ("levels", (low, middle, high + (1,))), ("levels", (low, middle, list(high))),
            ("levels", [low, middle, high]),
            ("levels", (low, middle, high), ()), ("level", (low, middle, high)), ["levels", (low, middle, high)],
            ("levels",),
            ("levels", low, middle, high), ("levels", None), ("levels", ("1", middle, high)),
        ]
        self.hold(takes_ultra, LEVELS, good, bad)
        self.hold(takes_ultra, ONE, [("levels", ()), ("levels", ((R, (0,)),))],
                  [("levels", []), ("levels", ((R, (1,)),)), ("levels", ((R, (0,)), (R, (0,)))), ("points", 0, 0, 0)])
        self.hold(takes_ultra, LINE, [], [("levels", ((R, (0, 0, 2)), (T, (0, 0, 0)))), ("levels", ((R, (0, 0, 2)),
                                          (T, (0, 1, 1)), (Ratio(3), (0, 0, 0))))])

    def test_points(self):
        self.hold(takes_ultra, LINE, [("points", 0, 1, 2), ("points", 2, 1, 0)], [
            ("points", 0, 2, 1), ("points", 1, 0, 2), ("points", 0, 0, 2), ("points", 0, 2, 2), ("points", 0, 1, 3),
            ("points", -1, 1, 0), ("points", False, 1, 2), ("points", 0, True, 2), ("points", 0, R, 2),
            ("points", 0, 1, "2"),
            ("points", 0, 1), ("points", 0, 1, 2, 2), ["points", 0, 1, 2], ("points", (0, 1, 2)),
            ("points", None, 1, 2),
            ("point", 0, 1, 2), ("points", [0], 1, 2)])
        # Above one of the two others only, and equal to the greater one.
        self.hold(takes_ultra, read_metric("3: 0 1 2; 1 0 2; 2 2 0"), [],
                  [("points", *some) for some in permutations(range(3))])
        self.hold(takes_ultra, complete(3, 1), [], [("points", *some) for some in permutations(range(3))])

    def test_against_the_meaning(self):
        kinds = self.hold_changed(264, 6, 12, takes_ultra, ultra_paper, means_ultra)
        self.assertGreater(min(kinds.count(True), kinds.count(False)), 10)
        random = seeded(265)
        for m in metrics(266, 3):
            for _ in range(12):
                paper = ("points", *random.choices(range(m.n + 1), k=3))
                self.assertIs(takes_ultra(m, paper), means_ultra(m, paper))


def apart(split, x, y):
    return (x in split) != (y in split)


def means_cuts(m, paper):
    """Tell what a paper of cut sums means, of which the parts have their kinds."""
    n, d = m.n, table(m)
    if len(paper) != 2 or not isinstance(paper[1], tuple):
        return False
    pairs = list(combinations(range(n), 2))
    if paper[0] == "functional":
        if len(paper[1]) != len(pairs):
            return False
        values = dict(zip(pairs, fractions_of(paper[1])))
        if any(sum(values[x, y] for x, y in pairs if apart(split, x, y)) > 0 for split in splits(n)):
            return False
        return sum(values[x, y] * d[x][y] for x, y in pairs) > 0
    for part in paper[1]:
        if len(part) != 2 or part[0] not in splits(n) or not isinstance(part[1], Ratio) or part[1].n <= 0:
            return False
    return all(sum((fraction(weight) for split, weight in paper[1] if apart(split, x, y)), Fraction(0)) == d[x][y]
               for x, y in pairs)


class Cuts(Cases):
    def test_weights(self):
        first, second = ((1, 2), R), ((2,), T)
        good = [("cuts", (first, second)), ("cuts", (second, first)),
                ("cuts", (second, ((1, 2), HALF), ((1, 2), HALF))),
                ("cuts", (((2,), R), first, ((2,), R)))]
        bad = [
            # Weights that are not above 0; no splits.
            ("cuts", (first, second, ((1,), Ratio(0)))), ("cuts", (first, ((2,), Ratio(3)), ((2,), -R))),
            ("cuts", (first, second, ((), R))), ("cuts", (((0,), R), second)), ("cuts", (((2, 1), R), second)),
            ("cuts", (((1, 1, 2), R), second)), ("cuts", (first, ((0, 1), T))),
            ("cuts", (first, second, ((0, 1, 2), R))),
            ("cuts", (first, second, ((3,), R))), ("cuts", (first, ((2, 3), T))), ("cuts", (first, ((-1,), T))),
            ("cuts", (((True, 2), R), second)), ("cuts", (([1, 2], R), second)), ("cuts", (((R, T), R), second)),
            ("cuts", (((1, "2"), R), second)), ("cuts", ((None, R), second)), ("cuts", ((1, R), second)),
            # Another sum.
            ("cuts", (first, first, second)), ("cuts", (first,)), ("cuts", ()), ("cuts", (first, second, ((1,), HALF))),
            ("cuts", (((1,), R), second)),
            # Integers as weights, no pairs, lists, other words.
            ("cuts", (((1, 2), 1), second)), ("cuts", (((1, 2), True), second)), ("cuts", (((1, 2), "1"), second)),
            ("cuts", (first + (R,), second)), ("cuts", (first[:1], second)), ("cuts", (list(first), second)),
            ("cuts", (None, second)),
            ("cuts", [first, second]), ("cuts", (first, second), ()), ("cut", (first, second)),
            ["cuts", (first, second)],
            ("cuts", first, second), ("cuts",), ("cuts", None), ("functional", (first, second)),
        ]
        self.hold(takes_cuts, LINE, good, bad)
        self.hold(takes_cuts, ONE, [("cuts", ())], [("cuts", (((0,), R),)), ("cuts", (((1,), R),)),
                                                    ("cuts", (((), R),)),
                                                    ("cuts", []), ("functional", ())])

    def test_functionals(self):
        values = row("1 -1 -1 -1 -1 -1 -1 1 1 1")
        good = [("functional", values), ("functional", tuple(HALF * item for item in values))]
        bad = [
            # Above 0 for some split.
            ("functional", (R,) * 10), ("functional", row("2 -1 -1 -1 -1 -1 -1 1 1 1")),
            ("functional", row("1 0 -1 -1 -1 -1 -1 1 1 1")), ("functional", row("1 -1 -1 -1 -1 -1 -1 1 1 10/9")),
            # Not above 0 with the distances.
            ("functional", (Ratio(0),) * 10), ("functional", (-R,) * 10),
            ("functional", row("0 -1 -1 -1 -1 -1 -1 1 1 1")),
            ("functional", row("-1 -1 -1 -1 -1 -1 -1 1 1 1")), ("functional", row("1 -1 -1 -2 -1 -1 -2 1 1 1")),
            # Both.
            ("functional", tuple(-item for item in values)), ("functional", values[9:] + values[:9]),
            # Not as many numbers as pairs; integers; lists; other words.
            ("functional", values[:9]), ("functional", values + (Ratio(0),)), ("functional", values[:9] + (1,)),
            ("functional", (True,) + values[1:]), ("functional", ("1",) + values[1:]), ("functional", list(values)),
            ("functional", (None,) + values[1:]), ("functional", ((),) + values[1:]), ("functional", ()),
            ("functional",),
            ("functional", values, ()), ("functionals", values), ["functional", values], ("cuts", values),
            ("functional", *values), ("functional", None),
        ]
        self.hold(takes_cuts, ACROSS, good, bad)
        self.hold(takes_cuts, complete(5, 1), [], good + bad)
        self.hold(takes_cuts, EDGE, [], [("functional", (R,)), ("functional", (-R,)), ("functional", (Ratio(0),))])

    def test_each_split_counts(self):
        # A functional against all splits but one, and above 0 with a metric that has this one with a large weight.
        for n in (2, 3, 4, 5):
            pairs = list(combinations(range(n), 2))
            columns = [tuple(Ratio(int(apart(split, x, y))) for x, y in pairs) for split in splits(n)]
            for at in range(len(columns)):
                kind, values = feasible(columns[:at] + columns[at + 1:], columns[at])
                self.assertEqual(kind, "functional")
                m = cut_sum(n, [10000 if k == at else 1 for k in range(len(columns))])
                self.assertGreater(sum(fraction(a) * fraction(b) for a, b in zip(values, m.pairs())), 0)
                self.assertIs(takes_cuts(m, ("functional", values)), False)

    def test_against_the_meaning(self):
        kinds = self.hold_changed(267, 6, 10, takes_cuts, cut_paper, means_cuts)
        self.assertGreater(min(kinds.count(True), kinds.count(False)), 10)
        random = seeded(268)
        values = row("1 -1 -1 -1 -1 -1 -1 1 1 1")
        kinds = []
        for _ in range(150):
            paper = ("functional", tuple(item + random.choice((Ratio(0), Ratio(0), Ratio(1, 9),
                                                               Ratio(-1, 9))) for item in values))
            kinds.append(means_cuts(ACROSS, paper))
            self.assertIs(takes_cuts(ACROSS, paper), kinds[-1])
        self.assertGreater(min(kinds.count(True), kinds.count(False)), 10)


def means_euclid(m, paper):
    """Tell what a paper of a Euclidean space means, of which the parts have their kinds."""
    n, d = m.n, table(m)
    some = range(1, n)
    g = [[(d[0][i] ** 2 + d[0][j] ** 2 - d[i][j] ** 2) / 2 for j in some] for i in some]
    if paper[0] == "vector":
        if len(paper) != 2 or len(paper[1]) != n - 1:
            return False
        values = fractions_of(paper[1])
        return sum((a * g[i][j] * b for i, a in enumerate(values) for j, b in enumerate(values)), Fraction(0)) < 0
    if len(paper) != 3 or not all(isinstance(item, Ratio) and item.n > 0 for item in paper[2]):
        return False
    if len(paper[1]) != n - 1 or any(not isinstance(one, tuple) or len(one) != len(paper[2]) for one in paper[1]):
        return False
    basis, squares = [fractions_of(one) for one in paper[1]], fractions_of(paper[2])
    return g == [[sum((c * a * b for c, a, b in zip(squares, v, w)), Fraction(0)) for w in basis] for v in basis]


class Spaces(Cases):
    def test_squares(self):
        m = read_metric("3: 0 3 5; 3 0 4; 5 4 0")
        basis, squares = rows("3 0", "3 4"), row("1 1")
        good = [("euclid", basis, squares), ("euclid", rows("1 0", "1 1"), row("9 16")),
                ("euclid", rows("0 3", "4 3"), squares),
                ("euclid", rows("-3 0", "-3 4"), squares), ("euclid", rows("3 0 0", "3 4 0"), row("1 1 5")),
                ("euclid", rows("3 0 0", "3 4 4"), row("1 1/2 1/2"))]
        bad = [
            # Squares that are not above 0.
            ("euclid", rows("3 0 0", "3 4 0"), row("1 1 0")), ("euclid", rows("3 0 0", "3 4 0"), row("1 1 -1")),
            ("euclid", rows("3 0 0", "3 5 3"), row("1 1 -1")),
            # Another item, on the diagonal and beside it.
            ("euclid", rows("3 0", "3 5"), squares), ("euclid", rows("4 0", "3 4"), squares),
            ("euclid", rows("3 0", "-3 4"), squares),
            ("euclid", rows("3 0", "5 0"), squares), ("euclid", basis, row("1 2")), ("euclid", basis[::-1], squares),
            ("euclid", rows("3 0", "0 5"), squares),
            # Not as many rows, or items in a row.
            ("euclid", basis[:1], squares), ("euclid", rows("0 0") + basis, squares),
            ("euclid", basis + rows("0 0"), squares),
            ("euclid", rows("3", "3 4"), squares), ("euclid", rows("3 0", "3 4 0"), squares),
            ("euclid", basis, row("1 1 1")),
            ("euclid", basis, row("1")), ("euclid", rows("3 0 0", "3 4 0"), squares), ("euclid", (), ()),
            ("euclid", ((), ()), ()),
            # Integers, lists, other words.
            ("euclid", ((3, Ratio(0)), basis[1]), squares), ("euclid", basis, (1, R)), ("euclid", basis, (True, R)),
            ("euclid", ((Ratio(3), False), basis[1]), squares), ("euclid", list(basis), squares),
            ("euclid", basis, list(squares)),
            ("euclid", (list(basis[0]), basis[1]), squares), ("euclid", basis), ("euclid", basis, squares, ()),
            ("euclid", None, None),
            ("Euclid", basis, squares), ["euclid", basis, squares], ("euclid", basis, None), ("euclid", None, squares),
            ("euclid", (basis[0], None), squares), ("euclid", basis, ("1", R)), ("vector", basis, squares), ("euclid",),
        ]
        self.hold(takes_euclid, m, good, bad)
        self.hold(takes_euclid, ONE, [("euclid", (), ()), ("euclid", (), (R, T))],
                  [("euclid", (), (Ratio(0),)), ("euclid", ((),), ()), ("euclid", [], ()), ("euclid", (), []),
                   ("vector", ())])
        self.hold(takes_euclid, SQUARE, [], [("euclid", rows("1 0", "2 0", "-1 1"), squares),
                                             ("euclid", rows("1", "2", "1"), row("1"))])

    def test_vectors(self):
        # The matrix is 1 2 -1, 2 4 2, -1 2 1.
        good = [("vector", row("1 -1/2 1")), ("vector", row("-2 1 -2")), ("vector", row("3 -1 3")),
                ("vector", row("2 -1 1"))]
        bad = [
            # 0 and above 0.
            ("vector", row("0 0 0")), ("vector", row("2 -1 0")), ("vector", row("1 1 1")), ("vector", row("1 0 0")),
            ("vector", row("0 0 1")), ("vector", row("1 0 1")), ("vector", row("1 -2 1")),
            ("vector", row("1 -1/2")), ("vector", row("0 1 -1/2 1")), ("vector", row("1 -1/2 1 0")), ("vector", ()),
            ("vector", (1, Ratio(-1, 2), 1)), ("vector", (R, Ratio(-1, 2), True)), ("vector", [R, Ratio(-1, 2), R]),
            ("vector", ("1", Ratio(-1, 2), R)), ("vector", (None,) * 3), ("vector", ((),) * 3), ("vector", None),
            ("vector",),
            ("vector", row("1 -1/2 1"), ()), ("vectors", row("1 -1/2 1")), ["vector", row("1 -1/2 1")],
            ("euclid", row("1 -1/2 1")),
            ("vector", *row("1 -1/2 1")),
        ]
        self.hold(takes_euclid, SQUARE, good, bad)
        self.hold(takes_euclid, path([1, 1, 1]), [], good + bad)

    def test_against_the_meaning(self):
        kinds = self.hold_changed(269, 6, 10, takes_euclid, euclid_paper, means_euclid)
        self.assertGreater(min(kinds.count(True), kinds.count(False)), 10)
        random = seeded(270)
        for m in metrics(271, 3):
            for _ in range(12):
                paper = ("vector", tuple(Ratio(random.randint(-2, 2)) for _ in range(m.n - 1)))
                self.assertIs(takes_euclid(m, paper), means_euclid(m, paper))


class Isometries(unittest.TestCase):
    def hold(self, a, b, good, bad):
        for paper in good:
            self.assertIs(takes_isometry(a, b, paper), True, paper)
        for paper in bad:
            self.assertIs(takes_isometry(a, b, paper), False, paper)

    def test_images(self):
        other = path([2, 1])
        self.hold(LINE, other, [("isometric", (2, 1, 0))], [
            # Distances that are not kept; points twice; no points; not as many.
            ("isometric", (0, 1, 2)), ("isometric", (2, 0, 1)), ("isometric", (1, 2, 0)), ("isometric", (2, 1, 2)),
            ("isometric", (1, 1, 1)), ("isometric", (2, 1, 3)), ("isometric", (2, 1, -1)), ("isometric", (2, 1)),
            ("isometric", (2, 1, 0, 0)), ("isometric", ()), ("isometric", [2, 1, 0]), ("isometric", (2, True, 0)),
            ("isometric", (2, 1, False)), ("isometric", (T, 1, 0)), ("isometric", ("2", 1, 0)),
            ("isometric", (None,) * 3),
            ("isometric", ((2, 1, 0),)), ("isometric", 2, 1, 0), ("isometric", (2, 1, 0), ()), ("isometric",),
            ["isometric", (2, 1, 0)], ("isometry", (2, 1, 0)), ("isometric", None), ("unlike",), ("sizes",), (), None,
            ("unlike", (2, 1, 0)), (("isometric", (2, 1, 0)),)])
        # Both ways round, and the pairs of the first and the last point alone.
        self.hold(SQUARE, SQUARE, [("isometric", (0, 1, 2, 3)), ("isometric", (3, 2, 1, 0)),
                                   ("isometric", (1, 2, 3, 0))],
                  [("isometric", (0, 2, 1, 3)), ("isometric", (1, 0, 2, 3)), ("isometric", (0, 1, 2, 2))])
        nearly = Metric([[0, 1, 1], [1, 0, Ratio(9, 8)], [1, Ratio(9, 8), 0]])
        self.hold(complete(3, 1), nearly, [("unlike",)], [("isometric", some) for some in permutations(range(3))])
        self.hold(nearly, complete(3, 1), [("unlike",)], [("isometric", some) for some in permutations(range(3))])

    def test_maps_that_are_not_one_to_one(self):
        # The images are points of b with the distances of a but for points that fall together.
        self.hold(EDGE, EDGE, [("isometric", (0, 1)), ("isometric", (1, 0))],
                  [("isometric", (0, 0)), ("isometric", (1, 1))])
        self.hold(EDGE, LINE, [("sizes",)], [("isometric", (0, 1)), ("isometric", (0, 1, 2)), ("unlike",)])
        self.hold(LINE, EDGE, [("sizes",)], [("isometric", (0, 1)), ("isometric", (0, 1, 0)), ("unlike",)])

    def test_words(self):
        bad = [["unlike"], ["sizes"], ("unlike", ()), ("sizes", ()), "unlike", "sizes", ("Unlike",), ("size",),
               (("unlike",),),
               ("unlike", "unlike"), (None,), (True,), (1,), ((),), ("",)]
        self.hold(LINE, path([1, 1]), [("unlike",)], bad + [("sizes",), ("isometric", (0, 1, 2))])
        self.hold(LINE, LINE, [("isometric", (0, 1, 2))], bad + [("unlike",), ("sizes",)])
        self.hold(LINE, EDGE, [("sizes",)], bad + [("unlike",), ("isometric", (0, 1))])
        self.hold(ONE, ONE, [("isometric", (0,))], bad + [("unlike",), ("sizes",), ("isometric", (False,)),
                                                          ("isometric", (1,))])

    def test_against_the_meaning(self):
        words = []
        for a, b in some_pairs(272, 5):
            due = kept(a, b)
            words.append("sizes" if a.n != b.n else "isometric" if due else "unlike")
            self.assertIs(takes_isometry(a, b, ("unlike",)), words[-1] == "unlike")
            self.assertIs(takes_isometry(a, b, ("sizes",)), words[-1] == "sizes")
            for images in product(range(b.n), repeat=a.n) if a.n < 5 else permutations(range(a.n)):
                self.assertIs(takes_isometry(a, b, ("isometric", images)), images in due)
        self.assertGreater(min(words.count(word) for word in words), 5)

    def test_eight_points(self):
        random = seeded(273)
        order = random.sample(range(8), 8)
        for m in (random_metric(random, 8), complete(8, 1), cycle([1] * 8)):
            a, b = restricted(m, order), scaled(m, 2)
            self.hold(a, m, [("isometric", tuple(order))], [("unlike",), ("sizes",)])
            self.hold(a, b, [("unlike",)], [("isometric", tuple(order)), ("sizes",)])
        # Only one distance of many is unlike.
        table_ = [list(one) for one in complete(8, 1).rows]
        table_[6][7] = table_[7][6] = Ratio(9, 8)
        self.hold(Metric(table_), complete(8, 1), [("unlike",)], [("isometric", tuple(range(8)))])


def means_splits(m, paper):
    """Tell what a paper of splits means, of which the parts have their kinds."""
    n, d = m.n, table(m)
    if len(paper) != 3 or not isinstance(paper[1], tuple) or not isinstance(paper[2], tuple):
        return False
    indexes = [(split, index_of(d, split)) for split in splits(n)]
    due = [(split, index) for split, index in indexes if index > 0]
    if any(len(part) != 2 or not isinstance(part[1], Ratio) for part in paper[1]):
        return False
    if [(split, fraction(index)) for split, index in paper[1]] != due:
        return False
    if len(paper[2]) != n or any(not isinstance(one, tuple) or len(one) != n for one in paper[2]):
        return False
    return all(d[x][y] == sum((index for split, index in due if apart(split, x, y)), fraction(paper[2][x][y]))
               for x, y in product(range(n), repeat=2))


class Splits(Cases):
    def test_parts(self):
        first, second = ((1, 2), R), ((2, 3), R)
        rest = rows(*["0 0 0 0"] * 4)
        bad = [
            # A part left out, one more, another order, another index, another split.
            ((first,), rest), ((second,), rest), ((), rest), ((((1,), R), first, second), rest),
            ((first, first, second), rest),
            ((first, second, second), rest), ((second, first), rest), ((((1, 2), HALF), second), rest),
            ((first, ((2, 3), T)), rest),
            ((first, ((1, 3), R)), rest), ((first, second, ((3,), Ratio(0))), rest),
            ((((1,), Ratio(0)), first, second), rest),
            ((((1, 2), -R), second), rest), ((((2, 1), R), second), rest), ((((0, 3), R), second), rest),
            # A part left out or less of it, with a rest that makes up for it.
            ((first,), rows("0 0 1 1", "0 0 1 1", "1 1 0 0", "1 1 0 0")), ((), SQUARE.rows),
            ((first, ((2, 3), HALF)), rows("0 0 1/2 1/2", "0 0 1/2 1/2", "1/2 1/2 0 0", "1/2 1/2 0 0")),
            # Integers, lists, True.
            ((((1, 2), 1), second), rest), ((((1, 2), True), second), rest), ((([1, 2], R), second), rest),
            ((((True, 2), R), second), rest), (((R, T), second), rest), ((list(first), second), rest),
            ([first, second], rest),
            ((first + (R,), second), rest), ((first[:1], second), rest), ((None, second), rest),
            ((((1, "2"), R), second), rest),
            ((((1, T), R), second), rest), (((None, R), second), rest), (None, rest), ("", rest),
            (((1, R), second), rest),
            ((((1, 2), "1"), second), rest), ((((1, 2), None), second), rest),
            # Another rest, one of another size, integers, lists, True.
            ((first, second), rest[:3]), ((first, second), rest + rest[:1]), ((first, second), ()),
            ((first, second), None),
            ((first, second), tuple(one[:3] for one in rest)),
            ((first, second), tuple(one + (Ratio(0),) for one in rest)),
            ((first, second), rest[:3] + ((Ratio(0), Ratio(0), Ratio(0), 0),)), ((first, second), list(rest)),
            ((first, second), rest[:3] + (list(rest[3]),)), ((first, second), rest[:3] + (None,)),
            ((first, second), rest[:3] + ((Ratio(0), Ratio(0), Ratio(0), False),)), ((first, second), SQUARE.rows),
        ]
        good = [("splits", (first, second), rest)]
        self.hold(takes_splits, SQUARE, good, [("splits", *some) for some in bad] + [
            ("splits", (first, second)), ("splits", (first, second), rest, ()), ("split", (first, second), rest),
            ["splits", (first, second), rest], ("splits", rest, (first, second)), ("splits",), (), None,
            ("", (first, second), rest)])

    def test_each_place_of_the_rest(self):
        parts = (((1, 2), R), ((2, 3), R))
        for x, y in product(range(4), repeat=2):
            for number in (R, -R):
                rest = [[Ratio(0)] * 4 for _ in range(4)]
                rest[x][y] = number
                self.assertIs(takes_splits(SQUARE, ("splits", parts, tuple(tuple(one) for one in rest))), False)
                rest[y][x] = number
                self.assertIs(takes_splits(SQUARE, ("splits", parts, tuple(tuple(one) for one in rest))), False)

    def test_rests(self):
        self.hold(takes_splits, ACROSS, [("splits", (), ACROSS.rows)], [
            ("splits", (), rows(*["0 0 0 0 0"] * 5)), ("splits", (), scaled(ACROSS, 2).rows),
            ("splits", (), ACROSS.rows[::-1]),
            ("splits", (((1,), R),), ACROSS.rows)])
        self.hold(takes_splits, ONE, [("splits", (), rows("0"))], [
            ("splits", (), ()), ("splits", (), rows("1")), ("splits", (), ((0,),)), ("splits", (((0,), R),), rows("0")),
            ("splits", (), ((False,),)), ("splits", [], rows("0"))])
        self.hold(takes_splits, LINE, [("splits", (((1, 2), R), ((2,), T)), rows(*["0 0 0"] * 3))], [
            ("splits", (((1, 2), R), ((2,), R)), rows("0 0 1", "0 0 1", "1 1 0")), ("splits", (), LINE.rows)])

    def test_against_the_meaning(self):
        kinds = self.hold_changed(274, 5, 10, takes_splits, split_paper, means_splits)
        self.assertGreater(min(kinds.count(True), kinds.count(False)), 10)


class Independence(unittest.TestCase):
    def test_the_checker_calls_nothing_of_chapters_3_to_8(self):
        left, found = ["checker"], set()
        while left:
            for node in ast.walk(ast.parse((PACKAGE / (left.pop() + ".py")).read_text("utf-8"))):
                if isinstance(node, (ast.Import, ast.ImportFrom)) and node.module.startswith("metricparts."):
                    name = node.module.removeprefix("metricparts.")
                    if name not in found:
                        found.add(name)
                        left.append(name)
        self.assertLessEqual(found, {"errors", "ratio", "linear", "simplex", "metric", "build"})


if __name__ == "__main__":
    unittest.main()
