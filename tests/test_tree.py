import unittest
from fractions import Fraction
from itertools import combinations, product

from metricparts.build import complete, cycle, path, star
from metricparts.errors import Refused
from metricparts.metric import Metric, read_metric
from metricparts.ratio import Ratio
from metricparts.tree import Tree, failing_quadruple, is_tree_metric, tree_of
from tests.helper import MALFORMED, OTHERS, fraction, metrics, q, raised, seeded, shown, table

ONE = Metric([[0]])
# Four points, two each at two further vertices.
FORK = [(0, 4, 1), (1, 4, 2), (4, 5, Ratio(1, 2)), (2, 5, 3), (3, 5, 4)]


def way(edges, x, y):
    """Return the list of the vertices on the path from x to y."""
    left = [[x]]
    while left:
        here = left.pop()
        if here[-1] == y:
            return here
        for a, b, _ in edges:
            for start, end in ((a, b), (b, a)):
                if start == here[-1] and end not in here:
                    left.append(here + [end])
    return None


def long(edges, x, y):
    """Return the length of the path from x to y."""
    steps = {frozenset(edge[:2]): edge[2] for edge in edges}
    places = way(edges, x, y)
    numbers = [steps[frozenset(step)] for step in zip(places, places[1:])]
    return sum((fraction(item) if isinstance(item, Ratio) else Fraction(item) for item in numbers), Fraction(0))


def random_tree(random, n):
    """Return the edges of a tree with n points: each next point hangs at a vertex or an edge, or parts an edge."""
    names, ends = [("point", 0)], []
    for at in range(1, n):
        new = ("point", at)
        kind = random.randrange(4)
        if kind == 0 or not ends:
            ends.append((random.choice(names), new))
        else:
            start, end = ends.pop(random.randrange(len(ends)))
            middle = new if kind == 1 else ("further", at)
            ends += [(start, middle), (middle, end)]
            if kind > 1:
                names.append(middle)
                ends.append((middle, new))
        names.append(new)
    points = random.sample([name for name in names if name[0] == "point"], n)
    order = points + random.sample([name for name in names if name[0] != "point"], len(names) - n)
    pairs = [tuple(random.sample((order.index(start), order.index(end)), 2)) for start, end in ends]
    return [(*pair, random.choice((1, 2, 3, Ratio(1, 2), Ratio(5, 3)))) for pair in random.sample(pairs, len(pairs))]


def trees(seed, many=8):
    """Give pairs of a tree of 1 to 8 points and its edges: told ones, then random ones."""
    told = [(1, []), (2, [(1, 0, 3)]), (4, FORK), (3, [(0, 1, 1), (1, 2, 1)]), (3, [(3, at, 1) for at in range(3)])]
    random = seeded(seed)
    told += [(n, random_tree(random, n)) for n in range(1, 9) for _ in range(many)]
    for n, edges in told:
        yield Tree(n, edges), edges


def ordered(edges):
    """Return the ascending tuple of edges with x < y and Ratio objects."""
    turned = [(min(x, y), max(x, y), item if isinstance(item, Ratio) else Ratio(item)) for x, y, item in edges]
    return tuple(sorted(turned, key=lambda edge: edge[:2]))


def renumbered(n, edges):
    """Return the edges with the vertices behind the points in the order of the least triples of their medians."""
    first = {}
    for x, y, z in combinations(range(n), 3):
        median, = set(way(edges, x, y)) & set(way(edges, y, z)) & set(way(edges, x, z))
        if median >= n and median not in first:
            first[median] = n + len(first)
    return [(first.get(x, x), first.get(y, y), item) for x, y, item in edges]


class Making(unittest.TestCase):
    def test_fields(self):
        tree = Tree(4, FORK)
        half = Ratio(1, 2)
        due = ((0, 4, q(1)), (1, 4, q(2)), (2, 5, q(3)), (3, 5, q(4)), (4, 5, half))
        self.assertEqual(shown((tree.n, tree.size, tree.edges)), shown((4, 6, due)))
        self.assertEqual(set(vars(tree)), {"n", "size", "edges"})
        for n, edges in ((1, ()), (1, []), (2, [(0, 1, 1)]), (8, [(at, at + 1, 1) for at in range(7)])):
            tree = Tree(n, edges)
            self.assertEqual(shown((tree.n, tree.size, tree.edges)), shown((n, n, ordered(edges))))

    def test_ascending_edges(self):
        random = seeded(111)
        for tree, edges in trees(112):
            self.assertEqual(shown(tree.edges), shown(ordered(edges)))
            self.assertEqual((tree.size, len(tree.edges)), (len(edges) + 1, len(edges)))
            turned = [(y, x, item if isinstance(item, Ratio) else Ratio(item)) for x, y, item in edges]
            random.shuffle(turned)
            for other in (Tree(tree.n, turned), Tree(tree.n, tuple(turned)), Tree(tree.n, tree.edges)):
                self.assertEqual(shown((other.n, other.size, other.edges)), shown((tree.n, tree.size, tree.edges)))
                self.assertIs(other == tree, True)

    def test_more_than_nine_vertices(self):
        # Of these edges (2, 10) comes behind (2, 9), and (10, 11) behind (9, 10).
        edges = [(0, 8, 1), (1, 8, 1), (8, 9, 1), (2, 9, 1), (9, 10, 1), (3, 10, 1), (10, 11, 1), (4, 11, 1), (11, 12, 1),
                 (5, 12, 1), (12, 13, 1), (6, 13, 1), (7, 13, 1)]
        tree = Tree(8, edges[::-1])
        self.assertEqual(shown(tree.edges), shown(ordered(edges)))
        self.assertEqual((tree.n, tree.size), (8, 14))
        self.assertIs(tree.numbered() == tree, True)

    def test_numbers_of_points(self):
        for n in OTHERS + [0, -1, 9, 10, 10 ** 20, Ratio(2), Ratio(1)]:
            for edges in ([], [(0, 1, 1)], [(at, at + 1, 1) for at in range(8)], None):
                self.assertEqual(raised(Tree, n, edges), MALFORMED, n)

    def test_edges_without_the_form(self):
        for edges in (True, False, None, "", "a", 0, 1, 5, Ratio(1), ONE, Tree(1, []), (0, 1, 1), (0,), ONE.rows):
            for n in (1, 2, 4):
                if edges != "" or n == 1:
                    self.assertEqual(raised(Tree, n, edges), MALFORMED, edges)
        for edge in OTHERS + [
            (0, 1), (0, 1, 1, 1), [0, 1, 1], "011", 5, Ratio(1), Tree(1, []), (0, 0, 1), (1, 1, 1), (-1, 1, 1),
            (0, -1, 1), (0, 2, 1), (2, 0, 1), (0, True, 1), (False, 1, 1), ("0", 1, 1), (0, None, 1), (0, Ratio(1), 1),
            (0, 1, 0), (0, 1, -1), (0, 1, Ratio(0)), (0, 1, Ratio(-1, 2)), (0, 1, True), (0, 1, None), (0, 1, "1"),
            (0, 1, [1]), (0, 1, ONE), ((0,), 1, 1),
        ]:
            self.assertEqual(raised(Tree, 2, [edge]), MALFORMED, edge)
            if edge not in ((0, 2, 1), (2, 0, 1)):
                self.assertEqual(raised(Tree, 3, [edge, (1, 2, 1)]), MALFORMED, edge)
                self.assertEqual(raised(Tree, 3, ((1, 2, 1), edge)), MALFORMED, edge)

    def test_wrong_numbers_of_edges(self):
        self.assertEqual(raised(Tree, 2, []), MALFORMED)
        self.assertEqual(raised(Tree, 1, [(0, 1, 1)]), MALFORMED)
        self.assertEqual(raised(Tree, 1, [(0, 0, 1)]), MALFORMED)
        self.assertEqual(raised(Tree, 3, [(0, 1, 1)]), MALFORMED)
        self.assertEqual(raised(Tree, 2, [(0, 1, 1), (0, 1, 1)]), MALFORMED)
        self.assertEqual(raised(Tree, 3, [(0, 1, 1), (1, 2, 1), (0, 2, 1)]), MALFORMED)
        self.assertEqual(raised(Tree, 8, [(at, at + 1, 1) for at in range(6)]), MALFORMED)
        self.assertEqual(raised(Tree, 2, [(0, 1, 1)] * 5000), MALFORMED)
        self.assertEqual(raised(Tree, 4, FORK[:4]), MALFORMED)
        self.assertEqual(raised(Tree, 4, FORK + [(0, 1, 1)]), MALFORMED)

    def test_circles_and_vertices_that_are_not_joined(self):
        for n, edges in (
            (4, [(0, 1, 1), (1, 2, 1), (2, 0, 1)]), (3, [(0, 1, 1), (0, 1, 1)]), (3, [(0, 1, 1), (1, 0, 2)]),
            (5, [(0, 1, 1), (2, 3, 1), (3, 4, 1), (4, 2, 1)]), (4, [(1, 2, 1), (2, 3, 1), (3, 1, 1)]),
            (6, [(0, 1, 1), (1, 2, 1), (3, 4, 1), (4, 5, 1), (5, 3, 1)]),
        ):
            self.assertEqual(raised(Tree, n, edges), MALFORMED, edges)

    def test_vertices_behind_the_points_with_fewer_than_three_edges(self):
        self.assertEqual(raised(Tree, 2, [(0, 2, 1), (2, 1, 1)]), MALFORMED)
        self.assertEqual(raised(Tree, 2, [(0, 1, 1), (1, 2, 1)]), MALFORMED)
        self.assertEqual(raised(Tree, 3, [(0, 3, 1), (1, 3, 1), (2, 4, 1), (3, 4, 1)]), MALFORMED)
        self.assertEqual(raised(Tree, 4, [(4, 5, 1), (0, 4, 1), (1, 4, 1), (2, 4, 1), (3, 5, 1)]), MALFORMED)
        self.assertEqual(raised(Tree, 3, [(at, 3, 1) for at in range(3)]), None)
        self.assertEqual(raised(Tree, 2, [(at, 3, 1) for at in range(3)]), MALFORMED)
        self.assertEqual(raised(Tree, 4, FORK), None)

    def test_points_may_be_anywhere(self):
        for n in range(1, 9):
            self.assertIsNone(raised(Tree, n, [(at, at + 1, 1) for at in range(n - 1)]))
            self.assertIsNone(raised(Tree, n, [(0, at, 1) for at in range(1, n)]))

    def test_arguments_stay_the_same(self):
        edges = list(FORK)
        tree = Tree(4, edges)
        self.assertEqual(edges, FORK)
        edges.pop()
        self.assertEqual((tree.size, len(tree.edges)), (6, 5))


class Equal(unittest.TestCase):
    def test_equal(self):
        self.assertIs(Tree(4, FORK) == Tree(4, FORK[::-1]), True)
        self.assertIs(Tree(4, FORK) != Tree(4, FORK[::-1]), False)

    def test_unlike_trees(self):
        other = [(0, 5, 1), (1, 5, 2), (4, 5, Ratio(1, 2)), (2, 4, 3), (3, 4, 4)]
        some = [
            Tree(4, FORK), Tree(4, other), Tree(4, FORK[:4] + [(3, 5, 5)]), Tree(1, []), Tree(2, [(0, 1, 1)]),
            Tree(2, [(0, 1, 2)]), Tree(3, [(0, 1, 1), (1, 2, 1)]), Tree(3, [(0, 1, 1), (0, 2, 1)]),
            Tree(3, [(at, 3, 1) for at in range(3)]), Tree(4, [(at, 3, 1) for at in range(3)]),
        ]
        for i, k in product(range(len(some)), repeat=2):
            self.assertIs(some[i] == some[k], i == k)
            self.assertIs(some[i] != some[k], i != k)

    def test_every_other_value(self):
        for tree in (Tree(1, []), Tree(4, FORK)):
            for value in OTHERS + [0, 1, Ratio(1), ONE, tree.edges, (tree.n, tree.edges), [tree], tree.metric()]:
                self.assertIs(tree == value, False, value)
                self.assertIs(value == tree, False, value)
                self.assertIs(tree != value, True, value)


class Distances(unittest.TestCase):
    def test_distance_of_all_vertices(self):
        self.assertEqual(shown(Tree(4, FORK).distance(4, 5)), shown(q("1/2")))
        self.assertEqual(shown(Tree(4, FORK).distance(3, 0)), shown(q("11/2")))
        self.assertEqual(shown(Tree(1, []).distance(0, 0)), shown(q(0)))
        for tree, edges in trees(113, 3):
            for x, y in product(range(tree.size), repeat=2):
                self.assertEqual(fraction(tree.distance(x, y)), long(edges, x, y))
                self.assertIsInstance(tree.distance(x, y), Ratio)

    def test_metric(self):
        self.assertEqual(str(Tree(1, []).metric()), "1: 0")
        self.assertEqual(str(Tree(4, FORK).metric()), "4: 0 3 9/2 11/2; 3 0 11/2 13/2; 9/2 11/2 0 7; 11/2 13/2 7 0")
        for tree, edges in trees(114, 4):
            m = tree.metric()
            self.assertIsInstance(m, Metric)
            self.assertEqual(table(m), [[long(edges, x, y) for y in range(tree.n)] for x in range(tree.n)])


class Numbered(unittest.TestCase):
    def test_told_examples(self):
        other = [(0, 5, 1), (1, 5, 2), (4, 5, Ratio(1, 2)), (2, 4, 3), (3, 4, 4)]
        self.assertIs(Tree(4, other).numbered() == Tree(4, FORK), True)
        self.assertIs(Tree(4, FORK).numbered() == Tree(4, FORK), True)
        # 0, 1, 2 meet at the vertex of 2 and 3 here, so it comes first.
        edges = [(0, 4, 1), (2, 4, 1), (4, 5, 1), (1, 5, 1), (3, 5, 1)]
        self.assertIs(Tree(4, edges).numbered() == Tree(4, edges), True)
        turned = [(0, 5, 1), (2, 5, 1), (4, 5, 1), (1, 4, 1), (3, 4, 1)]
        self.assertIs(Tree(4, turned).numbered() == Tree(4, edges), True)
        self.assertIs(Tree(1, []).numbered() == Tree(1, []), True)

    def test_against_the_medians(self):
        several = 0
        for tree, edges in trees(115, 12):
            found = tree.numbered()
            self.assertIsInstance(found, Tree)
            self.assertEqual(shown((found.n, found.edges)), shown((tree.n, ordered(renumbered(tree.n, edges)))))
            several += found != tree
        self.assertGreater(several, 10)

    def test_the_same_for_other_numbers_of_further_vertices(self):
        random = seeded(116)
        for tree, edges in trees(117, 6):
            order = list(range(tree.n)) + random.sample(range(tree.n, tree.size), tree.size - tree.n)
            other = Tree(tree.n, [(order[x], order[y], item) for x, y, item in edges])
            self.assertIs(other.numbered() == tree.numbered(), True)
            self.assertIs(tree.numbered().numbered() == tree.numbered(), True)


class FourPoints(unittest.TestCase):
    def test_told_examples(self):
        self.assertEqual(failing_quadruple(cycle([1, 1, 1, 1])), (0, 1, 2, 3))
        self.assertEqual(failing_quadruple(cycle([1] * 8)), (0, 1, 2, 5))
        for m in (ONE, path([1, 2, 3]), star([1, 2, 3, 4, 5]), complete(8, 1), cycle([1, 1, 1])):
            self.assertIsNone(failing_quadruple(m))
            self.assertIs(is_tree_metric(m), True)
        self.assertIs(is_tree_metric(cycle([1, 1, 1, 1])), False)

    def test_against_the_definition(self):
        kinds = []
        for m in [*metrics(118, 10), *[tree.metric() for tree, _ in trees(119, 4)]]:
            d = table(m)
            due = None
            for x, y, u, v in combinations(range(m.n), 4):
                sums = sorted([d[x][y] + d[u][v], d[x][u] + d[y][v], d[x][v] + d[y][u]])
                if sums[1] != sums[2] and due is None:
                    due = (x, y, u, v)
            self.assertEqual(shown(failing_quadruple(m)), shown(due))
            self.assertIs(is_tree_metric(m), due is None)
            kinds.append(due is None)
        self.assertGreater(min(kinds.count(True), kinds.count(False)), 30)

    def test_the_last_four_points(self):
        m = read_metric("5: 0 3 3 3 3; 3 0 1 2 1; 3 1 0 1 2; 3 2 1 0 1; 3 1 2 1 0")
        self.assertEqual(failing_quadruple(m), (0, 1, 2, 3))
        m = Metric([[0, 2, 2, 2, 2], [2, 0, 1, 2, 1], [2, 1, 0, 1, 2], [2, 2, 1, 0, 1], [2, 1, 2, 1, 0]])
        self.assertEqual(failing_quadruple(m), (0, 1, 2, 3))
        # A point that hangs at one of four points in a circle: the four others are found first.
        m = Metric([[0, 1, 2, 3, 2], [1, 0, 1, 2, 1], [2, 1, 0, 1, 2], [3, 2, 1, 0, 1], [2, 1, 2, 1, 0]])
        self.assertEqual(failing_quadruple(m), (0, 2, 3, 4))


class TreeOf(unittest.TestCase):
    def test_told_examples(self):
        self.assertIs(tree_of(ONE) == Tree(1, []), True)
        self.assertIs(tree_of(path([3])) == Tree(2, [(0, 1, 3)]), True)
        self.assertIs(tree_of(path([1, 2])) == Tree(3, [(0, 1, 1), (1, 2, 2)]), True)
        self.assertIs(tree_of(complete(3, 1)) == Tree(3, [(at, 3, Ratio(1, 2)) for at in range(3)]), True)
        self.assertIs(tree_of(star([1, 2, 3, 4])) == Tree(4, [(at, 4, at + 1) for at in range(4)]), True)
        self.assertIs(tree_of(Tree(4, FORK).metric()) == Tree(4, FORK), True)

    def test_the_numbered_tree_of_a_tree(self):
        for tree, _ in trees(120, 10):
            found = tree_of(tree.metric())
            self.assertIsInstance(found, Tree)
            self.assertIs(found == tree.numbered(), True)
            self.assertIs(found.metric() == tree.metric(), True)

    def test_points_between_others(self):
        edges = [(0, 1, 1), (1, 2, 1), (1, 3, 1), (3, 4, 1), (3, 5, 2)]
        self.assertIs(tree_of(Tree(6, edges).metric()) == Tree(6, edges), True)

    def test_other_metrics_are_refused(self):
        refused = 0
        for m in metrics(121, 6):
            if failing_quadruple(m) is None:
                self.assertIs(tree_of(m).metric() == m, True)
            else:
                self.assertEqual(raised(tree_of, m), (Refused, "tree"))
                refused += 1
        self.assertGreater(refused, 10)

    def test_metrics_and_trees_stay_the_same(self):
        m, tree = path([1, 2, 3]), Tree(4, FORK)
        before = shown((m.rows, tree.edges))
        for call in (lambda: tree_of(m).edges, lambda: tree.numbered().edges, lambda: tree.metric().rows,
                     lambda: tree.distance(0, 5), lambda: failing_quadruple(m)):
            self.assertEqual(shown(call()), shown(call()))
            self.assertEqual(shown((m.rows, tree.edges)), before)


if __name__ == "__main__":
    unittest.main()
