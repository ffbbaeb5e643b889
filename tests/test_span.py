import unittest
from fractions import Fraction
from itertools import combinations, combinations_with_replacement, product

from metricparts.build import complete, cycle, path, star
from metricparts.errors import Refused
from metricparts.metric import Metric, read_metric
from metricparts.ratio import Ratio
from metricparts.span import (
    is_above, is_tight, pushed_down, span_distance, span_edges, span_vertices,
)
from metricparts.tree import Tree, tree_of
from tests.helper import MALFORMED, OTHERS, fraction, fractions_of, metrics, q, raised, row, rows, seeded, shown, table
from tests.test_tree import random_tree

ONE = Metric([[0]])
TWO = path([Ratio(1, 2)])
LINE = path([1, 2])
SQUARE = cycle([1, 1, 1, 1])
LARGE = (Refused, "large")


def above(d, f):
    """Tell if a function is above a table."""
    return all(f[x] + f[y] >= d[x][y] for x, y in product(range(len(d)), repeat=2))


def tight(d, f):
    """Tell if a function is tight: above, and each item by an equality."""
    points = range(len(d))
    return above(d, f) and all(any(f[x] + f[y] == d[x][y] for y in points) for x in points)


def can_be_less(d, f):
    """Tell if another function above the table is at most this one: then one item alone can be made less."""
    slack = [min([f[x]] + [f[x] + f[y] - d[x][y] for y in range(len(d)) if y != x]) for x in range(len(d))]
    return any(item > 0 for item in slack)


def functions(random, d):
    """Return some lists of Fractions: rows, means of rows, all large, and such with less or more at one point."""
    n = len(d)
    top = max(max(one) for one in d)
    found = [list(one) for one in d] + [[top / 2] * n, [top] * n, [Fraction(0)] * n, [Fraction(-1)] * n]
    found += [[(a + b) / 2 for a, b in zip(*random.choices(d, k=2))] for _ in range(3)]
    found += [[Fraction(random.randint(-1, 8), random.choice((1, 2, 3))) for _ in range(n)] for _ in range(6)]
    for f in list(found):
        change = random.choice((Fraction(1, 3), Fraction(-1, 3), top))
        at = random.randrange(n)
        found.append([item + change if x == at else item for x, item in enumerate(f)])
    return found


def given(random, f):
    """Return a list or tuple of Ratio objects and integers."""
    items = [item.numerator if item.denominator == 1 and random.random() < 0.5 else q(item) for item in f]
    return random.choice((list, tuple))(items)


def lowered(d, f):
    """Return the function that is got by making the items as small as they may be, in turn."""
    found = list(f)
    for x in range(len(d)):
        found[x] = max([Fraction(0)] + [d[x][y] - found[y] for y in range(len(d)) if y != x])
    return found


def equal_pairs(d, f):
    """Return the pairs x <= y with an equality."""
    return [(x, y) for x, y in combinations_with_replacement(range(len(d)), 2) if f[x] + f[y] == d[x][y]]


def even_parts(n, pairs):
    """Return how many components of a graph have no odd circle: those whose points can have two colours."""
    left, found = set(range(n)), 0
    while left:
        colours = {left.pop(): 0}
        waiting, good = list(colours), True
        while waiting:
            x = waiting.pop()
            for pair in pairs:
                if x in pair:
                    y = pair[0] if pair[1] == x else pair[1]
                    if y not in colours:
                        colours[y] = 1 - colours[x]
                        waiting.append(y)
                    good = good and colours[y] != colours[x]
        left -= set(colours)
        found += good
    return found


def solution(d, pairs):
    """Return the only list of Fractions with these equalities, or None, by elimination."""
    n = len(d)
    left = [[Fraction(pair.count(x)) for x in range(n)] + [d[pair[0]][pair[1]]] for pair in pairs]
    for x in range(n):
        at = next((at for at in range(x, len(left)) if left[at][x]), None)
        if at is None:
            return None
        left[x], left[at] = left[at], left[x]
        left[x] = [item / left[x][x] for item in left[x]]
        left = [[a - one[x] * b for a, b in zip(one, left[x])] if k != x else one for k, one in enumerate(left)]
    return [one[n] for one in left]


def vertices_of(d):
    """Return the ascending list of the vertices by the definition: told by as many pairs as there are points."""
    n = len(d)
    found = []
    for pairs in combinations(list(combinations_with_replacement(range(n), 2)), n):
        f = solution(d, pairs)
        if f is not None and f not in found and above(d, f):
            found.append(f)
    return sorted(found)


def edges_of(d, vertices):
    """Return the pairs of indexes of vertices whose common equalities leave one component without an odd circle."""
    common = [set(equal_pairs(d, f)) for f in vertices]
    return tuple((i, k) for i, k in combinations(range(len(vertices)), 2)
                 if even_parts(len(d), common[i] & common[k]) == 1)


class Functions(unittest.TestCase):
    def test_told_examples(self):
        self.assertIs(is_above(ONE, [0]), True)
        self.assertIs(is_above(ONE, [-1]), False)
        self.assertIs(is_tight(ONE, [0]), True)
        self.assertIs(is_tight(ONE, [1]), False)
        self.assertIs(is_above(TWO, (Ratio(1, 2), 0)), True)
        self.assertIs(is_tight(TWO, (Ratio(1, 2), 0)), True)
        self.assertIs(is_tight(TWO, [Ratio(1, 4), Ratio(1, 4)]), True)
        self.assertIs(is_above(TWO, [Ratio(1, 4), Ratio(1, 5)]), False)
        self.assertIs(is_tight(TWO, [Ratio(1, 4), Ratio(1, 3)]), False)
        # All sums for unlike points are large enough, but not the one of a point with itself.
        self.assertIs(is_above(LINE, [-1, 2, 4]), False)
        self.assertIs(is_tight(LINE, [-1, 2, 4]), False)
        self.assertIs(is_tight(LINE, [0, 1, 3]), True)
        self.assertIs(is_tight(LINE, [1, 1, 2]), False)
        self.assertIs(is_tight(SQUARE, [1, 1, 1, 1]), True)

    def test_above_and_tight_against_the_definitions(self):
        random = seeded(221)
        kinds = []
        for m in metrics(222, 4):
            d = table(m)
            for f in functions(random, d):
                some = given(random, f)
                self.assertIs(is_above(m, some), above(d, f))
                self.assertIs(is_tight(m, some), tight(d, f))
                kinds.append((above(d, f), tight(d, f)))
                if above(d, f):
                    self.assertIs(is_tight(m, some), not can_be_less(d, f))
        self.assertGreater(min(kinds.count(kind) for kind in set(kinds)), 40)
        self.assertEqual(len(set(kinds)), 3)

    def test_rows_are_tight(self):
        for m in metrics(223, 3):
            for x in range(m.n):
                self.assertIs(is_tight(m, m.rows[x]), True)
                self.assertIs(is_above(m, list(m.rows[x])), True)

    def test_pushed_down(self):
        self.assertEqual(shown(pushed_down(ONE, [5])), shown(row("0")))
        self.assertEqual(shown(pushed_down(TWO, [1, 1])), shown(row("0 1/2")))
        self.assertEqual(shown(pushed_down(LINE, (3, 3, 3))), shown(row("0 1 3")))
        self.assertEqual(shown(pushed_down(LINE, (3, 1, 3))), shown(row("0 1 3")))
        self.assertEqual(shown(pushed_down(LINE, (5, 0, 2))), shown(row("1 0 2")))
        self.assertEqual(shown(pushed_down(SQUARE, [1, 1, 1, 1])), shown(row("1 1 1 1")))
        self.assertEqual(shown(pushed_down(complete(3, 1), [1, 1, Ratio(1, 4)])), shown(row("3/4 3/4 1/4")))

    def test_pushed_down_step_by_step(self):
        random = seeded(224)
        counts = [0, 0]
        for m in metrics(225, 4):
            d = table(m)
            for f in functions(random, d):
                some = given(random, f)
                if not above(d, f):
                    self.assertEqual(raised(pushed_down, m, some), (Refused, "above"))
                    counts[0] += 1
                    continue
                found = pushed_down(m, some)
                self.assertEqual(shown(found), shown(tuple(q(item) for item in lowered(d, f))))
                self.assertTrue(tight(d, fractions_of(found)))
                self.assertTrue(all(a <= b for a, b in zip(fractions_of(found), f)))
                self.assertEqual(shown(pushed_down(m, found)), shown(found))
                if tight(d, f):
                    self.assertEqual(fractions_of(found), f)
                for x, y in equal_pairs(d, f):
                    self.assertIn((x, y), equal_pairs(d, fractions_of(found)))
                counts[1] += 1
        self.assertGreater(min(counts), 50)

    def test_distance(self):
        self.assertEqual(shown(span_distance(ONE, [3], (Ratio(1, 2),))), shown(q("5/2")))
        self.assertEqual(shown(span_distance(LINE, [0, 1, 3], [3, 2, 0])), shown(q(3)))
        self.assertEqual(shown(span_distance(LINE, [0, -5, 3], (0, 1, 4))), shown(q(6)))
        random = seeded(226)
        for m in metrics(227, 3):
            some = functions(random, table(m))
            for f, g in zip(some, some[1:] + some[:1]):
                found = span_distance(m, given(random, f), given(random, g))
                self.assertEqual(shown(found), shown(q(max(abs(a - b) for a, b in zip(f, g)))))
            # The points stand in the tight span with their distances, and each tight function tells its own.
            for x, y in product(range(m.n), repeat=2):
                self.assertEqual(shown(span_distance(m, m.rows[x], m.rows[y])), shown(m.distance(x, y)))
            f = pushed_down(m, [50] * m.n)
            for x in range(m.n):
                self.assertEqual(shown(span_distance(m, m.rows[x], f)), shown(f[x]))

    def test_other_values(self):
        calls = [is_above, is_tight, pushed_down, lambda m, f: span_distance(m, f, [1] * m.n),
                 lambda m, f: span_distance(m, [1] * m.n, f), lambda m, f: span_distance(m, f, f)]
        for call in calls:
            for value in (True, None, "", "123", 3, Ratio(1), LINE, [], (), [3], (3, 3), [3, 3, 3, 3], [[3, 3, 3]],
                          ([3], [3], [3]), "3 3 3"):
                self.assertEqual(raised(call, LINE, value), MALFORMED, value)
            for bad in OTHERS:
                for value in ([bad, 3, 3], (3, bad, 3), [3, 3, bad], (bad, bad, bad)):
                    self.assertEqual(raised(call, LINE, value), MALFORMED, value)
            for bad in OTHERS:
                if bad not in ([1], (1,), [Ratio(1)]):
                    self.assertEqual(raised(call, ONE, bad), MALFORMED, bad)

    def test_arguments_stay_the_same(self):
        f = [3, Ratio(5, 2), 3]
        before = shown((f, LINE.rows))
        for call in (is_above, is_tight, pushed_down, lambda m, f: span_distance(m, f, f)):
            self.assertEqual(shown(call(LINE, f)), shown(call(LINE, tuple(f))))
            self.assertEqual(shown((f, LINE.rows)), before)


class Vertices(unittest.TestCase):
    def check(self, m):
        d = table(m)
        due = vertices_of(d)
        found = span_vertices(m)
        self.assertEqual(shown(found), shown(tuple(tuple(q(item) for item in f) for f in due)))
        self.assertEqual(shown(span_edges(m)), shown(edges_of(d, due)))
        self.assertTrue(all(even_parts(m.n, equal_pairs(d, f)) == 0 and tight(d, f) for f in due))
        self.assertTrue(all(list(one) in due for one in d))
        return len(due)

    def test_told_examples(self):
        self.assertEqual(shown(span_vertices(ONE)), shown(rows("0")))
        self.assertEqual(span_edges(ONE), ())
        self.assertEqual(shown(span_vertices(TWO)), shown(rows("0 1/2", "1/2 0")))
        self.assertEqual(span_edges(TWO), ((0, 1),))
        self.assertEqual(shown(span_vertices(complete(3, 1))), shown(rows("0 1 1", "1/2 1/2 1/2", "1 0 1", "1 1 0")))
        self.assertEqual(span_edges(complete(3, 1)), ((0, 1), (1, 2), (1, 3)))
        self.assertEqual(shown(span_vertices(LINE)), shown(rows("0 1 3", "1 0 2", "3 2 0")))
        self.assertEqual(span_edges(LINE), ((0, 1), (1, 2)))
        # A square that is filled: its four corners are the points, and its sides the edges.
        self.assertEqual(shown(span_vertices(SQUARE)), shown(rows("0 1 2 1", "1 0 1 2", "1 2 1 0", "2 1 0 1")))
        self.assertEqual(span_edges(SQUARE), ((0, 1), (0, 2), (1, 3), (2, 3)))

    def test_numbers_are_ordered_as_numbers(self):
        m = read_metric("3: 0 1/2 10; 1/2 0 21/2; 10 21/2 0")
        self.assertEqual(shown(span_vertices(m)), shown(rows("0 1/2 10", "1/2 0 21/2", "10 21/2 0")))
        m = path([Ratio(1, 3), Ratio(1, 2)])
        self.assertEqual(shown(span_vertices(m)), shown(rows("0 1/3 5/6", "1/3 0 1/2", "5/6 1/2 0")))

    def test_against_the_definition(self):
        counts = [self.check(m) for m in metrics(228, 10, 4)]
        self.assertGreater(max(counts), 7)

    def test_five_points(self):
        counts = [self.check(m) for m in metrics(229, 4, 5) if m.n == 5]
        counts += [self.check(m) for m in (cycle([1] * 5), complete(5, 2), cycle([1, 2, 3, 4, 5]),
                                           star([1, 2, 3, 4, 5]))]
        self.assertGreater(max(counts), 11)

    def test_six_points(self):
        for m in (complete(6, 1), path([1] * 5), path([1] * 6), cycle([1] * 8), star([1, 2, 3, 4, 5, 6, 7])):
            self.assertEqual(raised(span_vertices, m), LARGE)
            self.assertEqual(raised(span_edges, m), LARGE)
        for n in range(1, 6):
            self.assertEqual(raised(span_vertices, complete(n, 1)), None)
            self.assertEqual(raised(span_edges, complete(n, 1)), None)

    def test_trees(self):
        random = seeded(230)
        for n in range(1, 6):
            for _ in range(8):
                tree = Tree(n, random_tree(random, n))
                places = [[fraction(tree.distance(vertex, x)) for x in range(n)] for vertex in range(tree.size)]
                order = sorted(range(tree.size), key=lambda vertex: places[vertex])
                m = tree.metric()
                self.assertEqual(shown(span_vertices(m)), shown(tuple(tuple(q(item) for item in places[vertex])
                                                                      for vertex in order)))
                due = sorted(tuple(sorted((order.index(x), order.index(y)))) for x, y, _ in tree.edges)
                self.assertEqual(shown(span_edges(m)), shown(tuple(due)))
                self.assertEqual(len(span_edges(m)), tree_of(m).size - 1)

    def test_metrics_stay_the_same(self):
        for m in (SQUARE, complete(5, Ratio(1, 2))):
            before = shown(m.rows)
            for call in (span_vertices, span_edges):
                self.assertEqual(shown(call(m)), shown(call(Metric(m.rows))))
                self.assertEqual(shown(m.rows), before)


if __name__ == "__main__":
    unittest.main()
