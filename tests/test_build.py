import unittest
from fractions import Fraction
from itertools import combinations, product as pairs

from metricparts.build import (
    added, complete, cut_rows, cut_sum, cycle, extended, from_graph, greater, l1_points, path, product, restricted,
    scaled, splits, star, truncated,
)
from metricparts.errors import Refused
from metricparts.metric import Metric
from metricparts.ratio import Ratio
from tests.helper import (
    MALFORMED, OTHERS, fraction, is_metric, metrics, q, raised, random_metric, seeded, shown, subsets, table,
)

LARGE = (Refused, "large")
NO_METRIC = (Refused, "metric")
LOOSE = (Refused, "connected")
# Values that are no number above 0.
NO_LENGTHS = OTHERS + [0, -1, Ratio(0), Ratio(-1, 2)]
ONE = Metric([[0]])


def length(random):
    """Return a number above 0, an integer or a Ratio."""
    return random.choice((random.randint(1, 9), Ratio(random.randint(1, 9), random.randint(1, 4))))


def value(number):
    """Return the Fraction of an integer or a Ratio."""
    return fraction(number) if isinstance(number, Ratio) else Fraction(number)


def simple_paths(n, edges, x, y):
    """Return the lengths of all ways from x to y that enter no point twice."""
    found = []
    left = [((x,), Fraction(0))]
    while left:
        way, long = left.pop()
        if way[-1] == y:
            found.append(long)
        for a, b, item in edges:
            for here, there in ((a, b), (b, a)):
                if here == way[-1] and there not in way:
                    left.append((way + (there,), long + value(item)))
    return found


class Case(unittest.TestCase):
    def told(self, m, text):
        self.assertIsInstance(m, Metric)
        self.assertEqual(str(m), text)

    def due(self, m, rows):
        self.assertIsInstance(m, Metric)
        self.assertEqual(table(m), [[Fraction(item) for item in row] for row in rows])


class Graphs(Case):
    def test_told_examples(self):
        self.told(from_graph(1, []), "1: 0")
        self.told(from_graph(1, ()), "1: 0")
        self.told(from_graph(2, [(0, 1, 3)]), "2: 0 3; 3 0")
        self.told(from_graph(2, ((1, 0, Ratio(1, 2)),)), "2: 0 1/2; 1/2 0")
        self.told(from_graph(3, [(0, 1, 1), (1, 2, 1)]), "3: 0 1 2; 1 0 1; 2 1 0")
        self.told(from_graph(3, [(0, 1, 1), (1, 2, 1), (0, 2, 5)]), "3: 0 1 2; 1 0 1; 2 1 0")
        self.told(from_graph(3, [(0, 1, 1), (1, 2, 1), (2, 0, Ratio(3, 2))]), "3: 0 1 3/2; 1 0 1; 3/2 1 0")

    def test_parallel_edges(self):
        for edges in ([(0, 1, 3), (0, 1, 2)], [(0, 1, 2), (0, 1, 3)], [(0, 1, 2), (1, 0, 3)], [(1, 0, 3), (0, 1, 2)]):
            self.told(from_graph(2, edges), "2: 0 2; 2 0")

    def test_against_all_ways(self):
        random = seeded(51)
        loose = 0
        for _ in range(150):
            n = random.randint(1, 6)
            ends = [random.sample(range(n), 2) for _ in range(random.randint(0, 9) if n > 1 else 0)]
            edges = [(x, y, length(random)) for x, y in ends]
            ways = [[simple_paths(n, edges, x, y) for y in range(n)] for x in range(n)]
            if all(way for row in ways for way in row):
                self.due(from_graph(n, edges), [[min(way) for way in row] for row in ways])
                self.due(from_graph(n, tuple(edges)), [[min(way) for way in row] for row in ways])
            else:
                loose += 1
                self.assertEqual(raised(from_graph, n, edges), LOOSE)
        self.assertGreater(loose, 10)
        self.assertLess(loose, 140)

    def test_eight_points(self):
        edges = [(at, at + 1, 1) for at in range(7)]
        self.due(from_graph(8, edges), [[abs(x - y) for y in range(8)] for x in range(8)])

    def test_numbers_of_points(self):
        for n in OTHERS + [0, -1, -8, Ratio(1), Ratio(3)]:
            for edges in ([], [(0, 1, 1)], None, "x"):
                self.assertEqual(raised(from_graph, n, edges), MALFORMED, n)
        for n in (9, 10, 10 ** 30):
            for edges in ([], None, [(0, 1, 1)], [(0, 0, 0)], "x", [(at, at + 1, 1) for at in range(8)]):
                self.assertEqual(raised(from_graph, n, edges), LARGE)

    def test_edges_without_the_form(self):
        for edges in OTHERS[:8] + OTHERS[9:11] + OTHERS[12:] + [0, 5, Ratio(1), (0, 1, 1)]:
            self.assertEqual(raised(from_graph, 2, edges), MALFORMED, edges)
        for edge in OTHERS + [
            (0, 1), (0, 1, 1, 1), [0, 1, 1], (0, 0, 1), (1, 1, 1), (0, 2, 1), (2, 0, 1), (-1, 0, 1), (0, -1, 1),
            (False, 1, 1), (0, True, 1), (0, Ratio(1), 1), ("0", 1, 1), (None, 1, 1), (0, (1,), 1),
        ] + [(0, 1, item) for item in NO_LENGTHS]:
            for edges in ([edge], (edge,), [(0, 1, 1), edge], [edge, (0, 1, 1)]):
                self.assertEqual(raised(from_graph, 2, edges), MALFORMED, edge)
        self.assertEqual(raised(from_graph, 1, [(0, 0, 1)]), MALFORMED)

    def test_not_connected(self):
        for n, edges in ((2, []), (3, [(0, 1, 1)]), (4, [(0, 1, 1), (2, 3, 1)]), (3, [(1, 2, 1)]), (8, ())):
            self.assertEqual(raised(from_graph, n, edges), LOOSE)
        self.assertEqual(raised(from_graph, 3, [(0, 1, 0)]), MALFORMED)


class Lines(Case):
    def test_path(self):
        self.told(path([]), "1: 0")
        self.told(path(()), "1: 0")
        self.told(path([2]), "2: 0 2; 2 0")
        self.told(path((1, Ratio(1, 2), 3)), "4: 0 1 3/2 9/2; 1 0 1/2 7/2; 3/2 1/2 0 3; 9/2 7/2 3 0")
        random = seeded(52)
        for many in range(8):
            lengths = [length(random) for _ in range(many)]
            places = [sum((value(item) for item in lengths[:at]), Fraction(0)) for at in range(many + 1)]
            self.due(path(lengths), [[abs(a - b) for b in places] for a in places])

    def test_cycle(self):
        self.told(cycle([1, 1, 2]), "3: 0 1 2; 1 0 1; 2 1 0")
        self.told(cycle((1, 1, 1, 1)), "4: 0 1 2 1; 1 0 1 2; 2 1 0 1; 1 2 1 0")
        self.told(cycle([1, 1, 9]), "3: 0 1 2; 1 0 1; 2 1 0")
        self.told(cycle([Ratio(9, 2), 1, Ratio(1, 2)]), "3: 0 3/2 1/2; 3/2 0 1; 1/2 1 0")
        random = seeded(53)
        for many in range(3, 9):
            for _ in range(6):
                lengths = [length(random) for _ in range(many)]
                lengths[random.randrange(many)] = random.choice((1, 3, 40))
                places = [sum((value(item) for item in lengths[:at]), Fraction(0)) for at in range(many + 1)]
                rows = [[min(abs(a - b), places[-1] - abs(a - b)) for b in places[:-1]] for a in places[:-1]]
                self.due(cycle(lengths), rows)
                self.due(cycle(tuple(lengths)), rows)

    def test_star(self):
        self.told(star([5]), "1: 0")
        self.told(star((1, Ratio(1, 2))), "2: 0 3/2; 3/2 0")
        self.told(star([1, 2, 3]), "3: 0 3 4; 3 0 5; 4 5 0")
        random = seeded(54)
        for many in range(1, 9):
            lengths = [length(random) for _ in range(many)]
            numbers = [value(item) for item in lengths]
            self.due(star(lengths), [[(a + b) * (x != y) for y, b in enumerate(numbers)] for x, a in enumerate(numbers)])

    def test_complete(self):
        self.told(complete(1, 3), "1: 0")
        self.told(complete(3, Ratio(1, 2)), "3: 0 1/2 1/2; 1/2 0 1/2; 1/2 1/2 0")
        for n in range(1, 9):
            self.due(complete(n, 7), [[7 * (x != y) for y in range(n)] for x in range(n)])

    def test_too_few_lengths(self):
        for lengths in ([], (), [1], [1, 1], (1, Ratio(1))):
            self.assertEqual(raised(cycle, lengths), MALFORMED)
        for lengths in ([], ()):
            self.assertEqual(raised(star, lengths), MALFORMED)
        self.assertIsNone(raised(cycle, [1, 1, 1]))

    def test_values_without_the_form(self):
        for function in (path, cycle, star):
            for lengths in (True, False, None, "", "111", "1", 0, 3, Ratio(3), ONE, Metric([[0, 1], [1, 0]])):
                self.assertEqual(raised(function, lengths), MALFORMED, lengths)
            for bad in NO_LENGTHS:
                for lengths in ([bad], [bad, 1, 1], [1, 1, 1, bad], (1, bad, 1), [bad] * 3, [bad] * 12, [1] * 20 + [bad]):
                    self.assertEqual(raised(function, lengths), MALFORMED, bad)

    def test_too_many_lengths(self):
        for function, most in ((path, 7), (cycle, 8), (star, 8)):
            self.assertIsNone(raised(function, [1] * most))
            for more in (1, 2, 300):
                self.assertEqual(raised(function, [1] * (most + more)), LARGE)
                self.assertEqual(raised(function, (Ratio(1, 2),) * (most + more)), LARGE)

    def test_complete_with_other_values(self):
        for n in OTHERS + [0, -1, Ratio(2)]:
            self.assertEqual(raised(complete, n, 1), MALFORMED, n)
        for bad in NO_LENGTHS:
            for n in (1, 2, 8, 9, 10 ** 20):
                self.assertEqual(raised(complete, n, bad), MALFORMED, bad)
        for n in (9, 10, 10 ** 20):
            self.assertEqual(raised(complete, n, 1), LARGE)


class RowsOfNumbers(Case):
    def test_told_examples(self):
        self.told(l1_points([[]]), "1: 0")
        self.told(l1_points([(5,)]), "1: 0")
        self.told(l1_points([[0, 0], (1, Ratio(-1, 2))]), "2: 0 3/2; 3/2 0")
        self.told(l1_points(((-1,), (2,), (0,))), "3: 0 3 1; 3 0 2; 1 2 0")

    def test_against_the_definition(self):
        random = seeded(55)
        for _ in range(80):
            n, width = random.randint(1, 8), random.randint(1, 4)
            points = [[random.choice((-1, 1)) * random.randint(0, 9) for _ in range(width)] for _ in range(n)]
            points = [tuple(Ratio(item, 3) if item % 2 else item for item in point) for point in points]
            rows = [[sum(abs(value(a) - value(b)) for a, b in zip(v, w)) for w in points] for v in points]
            if is_metric(rows):
                self.due(l1_points(points), rows)
                self.due(l1_points(tuple(list(point) for point in points)), rows)
            else:
                self.assertEqual(raised(l1_points, points), NO_METRIC)

    def test_values_without_the_form(self):
        for points in OTHERS[:5] + [
            "ab", 0, 3, Ratio(1), ONE, [], (), [1], [1, [2]], [[1], 2], ["1"], [None], ["", ""], [[1], "1"], [[1], []],
            [[], [1]], [[1], [1, 2]], [[1, 2], [1]], [[1, 2], (3, 4), [5]], [[True]], [["1"]], [[1], [None]],
            [[0], [1], [[2]]], [[1], ONE], [[[1]]],
        ]:
            self.assertEqual(raised(l1_points, points), MALFORMED, points)

    def test_the_order_of_the_errors(self):
        self.assertIsNone(raised(l1_points, [[at] for at in range(8)]))
        self.assertEqual(raised(l1_points, [[at] for at in range(9)]), LARGE)
        self.assertEqual(raised(l1_points, [[0] for at in range(9)]), LARGE)
        self.assertEqual(raised(l1_points, [[at] for at in range(9)] + [[1, 2]]), MALFORMED)
        self.assertEqual(raised(l1_points, [[at] for at in range(9)] + [[True]]), MALFORMED)
        for points in ([[1], [1]], [[], []], [[1, 2], [2, 1], (Ratio(2, 2), Ratio(2))], ((), ())):
            self.assertEqual(raised(l1_points, points), NO_METRIC)


class FromMetrics(Case):
    def test_scaled(self):
        self.told(scaled(path([1, 2]), Ratio(1, 2)), "3: 0 1/2 3/2; 1/2 0 1; 3/2 1 0")
        for m in metrics(56, 2):
            for factor in (1, 3, Ratio(1, 3), Ratio(7, 2)):
                self.due(scaled(m, factor), [[item * value(factor) for item in row] for row in table(m)])

    def test_truncated(self):
        self.told(truncated(path([1, 2]), 2), "3: 0 1 2; 1 0 2; 2 2 0")
        for m in metrics(57, 2):
            for bound in (1, 3, Ratio(1, 3), Ratio(7, 2), 100):
                self.due(truncated(m, bound), [[min(item, value(bound)) for item in row] for row in table(m)])

    def test_factors_and_bounds_of_other_kinds(self):
        for bad in NO_LENGTHS:
            for m in (ONE, path([1, 2])):
                self.assertEqual(raised(scaled, m, bad), MALFORMED, bad)
                self.assertEqual(raised(truncated, m, bad), MALFORMED, bad)

    def test_restricted(self):
        m = path([1, 2, 4])
        self.told(restricted(m, [2]), "1: 0")
        self.told(restricted(m, (3, 0)), "2: 0 7; 7 0")
        self.told(restricted(m, [2, 0, 1]), "3: 0 3 2; 3 0 1; 2 1 0")
        random = seeded(58)
        for m in metrics(59, 3):
            points = random.sample(range(m.n), random.randint(1, m.n))
            self.due(restricted(m, points), [[table(m)[x][y] for y in points] for x in points])
            self.due(restricted(m, tuple(points)), [[table(m)[x][y] for y in points] for x in points])

    def test_restricted_to_other_values(self):
        m = path([1, 2])
        for points in (
            True, False, None, "", "0", 0, 1, Ratio(0), ONE, m, [], (), "01", [3], [-1], [0, 3], [0, 0], [1, 2, 1], (2, 2), [0, 1, 2, 0], [True],
            [False], [0, True], [Ratio(0)], [None], ["0"], [[0]], [(0,)], [0, 1, 2, 3], [0] * 9, [0, "1"], [[0], 0],
        ):
            self.assertEqual(raised(restricted, m, points), MALFORMED, points)

    def test_added_and_greater(self):
        one, other = path([1, 4]), cycle([3, 1, 3])
        self.told(added(one, other), "3: 0 4 8; 4 0 5; 8 5 0")
        self.told(greater(one, other), "3: 0 3 5; 3 0 4; 5 4 0")
        random = seeded(60)
        for m in metrics(61, 3):
            other = random_metric(random, m.n)
            both = [list(zip(row, second)) for row, second in zip(table(m), table(other))]
            self.due(added(m, other), [[a + b for a, b in row] for row in both])
            self.due(greater(m, other), [[max(a, b) for a, b in row] for row in both])

    def test_unlike_numbers_of_points(self):
        for n, k in pairs(range(1, 9), repeat=2):
            due = None if n == k else MALFORMED
            self.assertEqual(raised(added, complete(n, 1), complete(k, 1)), due)
            self.assertEqual(raised(greater, complete(n, 1), complete(k, 1)), due)

    def test_product(self):
        self.told(product(path([1]), path([3])), "4: 0 3 1 4; 3 0 4 1; 1 4 0 3; 4 1 3 0")
        random = seeded(62)
        for n, k in pairs(range(1, 9), repeat=2):
            one, other = random_metric(random, n), random_metric(random, k)
            if n * k > 8:
                self.assertEqual(raised(product, one, other), LARGE)
                continue
            a, b = table(one), table(other)
            places = [(x, y) for x in range(n) for y in range(k)]
            self.due(product(one, other), [[a[x][u] + b[y][v] for u, v in places] for x, y in places])

    def test_extended(self):
        self.told(extended(ONE, [3]), "2: 0 3; 3 0")
        self.told(extended(path([2]), (1, Ratio(3, 2))), "3: 0 2 1; 2 0 3/2; 1 3/2 0")
        random = seeded(63)
        kinds = []
        for m in list(metrics(64, 12, 7)):
            distances = [random.randint(0, 8) for _ in range(m.n)]
            if random.random() < 0.8:
                spread = random.randint(1, 9)
                distances = [Ratio(random.randint(spread, spread + 2), random.randint(1, 2)) for _ in range(m.n)]
            numbers = [value(item) for item in distances]
            rows = [row + [item] for row, item in zip(table(m), numbers)] + [numbers + [Fraction(0)]]
            kinds.append(is_metric(rows))
            if kinds[-1]:
                self.due(extended(m, distances), rows)
                self.due(extended(m, tuple(distances)), rows)
            else:
                self.assertEqual(raised(extended, m, distances), NO_METRIC)
        self.assertGreater(min(kinds.count(True), kinds.count(False)), 15)

    def test_extended_by_other_values(self):
        m = path([2])
        for bad in OTHERS:
            self.assertEqual(raised(extended, m, [1, bad]), MALFORMED, bad)
            self.assertEqual(raised(extended, m, [bad, 1]), MALFORMED, bad)
            self.assertEqual(raised(extended, complete(8, 1), [1] * 7 + [bad]), MALFORMED, bad)
        for bad in (True, None, "", "12", 2, Ratio(2), ONE, m, [], (), [1], [1, 1, 1], (2, 2, 2)):
            self.assertEqual(raised(extended, m, bad), MALFORMED, bad)
            self.assertEqual(raised(extended, complete(8, 1), bad), MALFORMED, bad)
        self.assertEqual(raised(extended, complete(8, 1), [1] * 8), LARGE)
        self.assertEqual(raised(extended, complete(8, 1), [-1] * 8), LARGE)
        self.assertEqual(raised(extended, complete(8, 1), [1] * 9), MALFORMED)
        for distances in ([0, 2], [-1, 3], [Ratio(1, 2), 1], [1, 4], [4, 1], [-1, -1]):
            self.assertEqual(raised(extended, m, distances), NO_METRIC)

    def test_arguments_stay_the_same(self):
        one, other = path([1, 4]), cycle([3, 1, 3])
        lengths, edges, points = [1, Ratio(2), 3], [(0, 1, 1), (2, 1, Ratio(1, 2))], [2, 0]
        before = shown([one.rows, other.rows, lengths, edges, points])
        for call in (
            lambda: from_graph(3, edges), lambda: path(lengths), lambda: cycle(lengths), lambda: star(lengths),
            lambda: complete(3, Ratio(1, 2)), lambda: l1_points([lengths, points + [1]]), lambda: scaled(one, 2),
            lambda: truncated(one, 2), lambda: restricted(one, points), lambda: added(one, other),
            lambda: greater(one, other), lambda: product(one, path([1])), lambda: extended(one, [4, 4, 4]),
            lambda: cut_sum(3, lengths),
        ):
            self.assertEqual(str(call()), str(call()))
            self.assertEqual(shown([one.rows, other.rows, lengths, edges, points]), before)


class Splits(Case):
    def test_splits(self):
        self.assertEqual(splits(1), ())
        self.assertEqual(splits(2), ((1,),))
        self.assertEqual(splits(3), ((1,), (1, 2), (2,)))
        self.assertEqual(splits(4), ((1,), (1, 2), (1, 2, 3), (1, 3), (2,), (2, 3), (3,)))
        for n in range(1, 9):
            found = splits(n)
            self.assertEqual(shown(found), shown(tuple(subsets(n))))
            self.assertEqual(len(found), 2 ** (n - 1) - 1)

    def test_cut_rows(self):
        self.assertEqual(shown(cut_rows(2, (1,))), shown(((q(0), q(1)), (q(1), q(0)))))
        for n in range(1, 9):
            for split in subsets(n):
                rows = tuple(tuple(q(int((x in split) != (y in split))) for y in range(n)) for x in range(n))
                self.assertEqual(shown(cut_rows(n, split)), shown(rows))

    def test_values_that_are_no_split(self):
        for n in range(1, 9):
            for bad in OTHERS + [
                0, 1, Ratio(1), (0,), (0, 1), (n,), (-1,), (2, 1), (1, 1), [1], [1, 2], (True,), (1, True), (Ratio(1),),
                ("1",), (None,), ((1,),), (1, n), (n - 1, 1), "1", (1, 2, 2), (),
            ]:
                # (True,) and (1,) are equal in Python, but not alike.
                if shown(bad) not in [shown(split) for split in subsets(n)]:
                    self.assertEqual(raised(cut_rows, n, bad), MALFORMED, bad)

    def test_numbers_of_points(self):
        for n in OTHERS + [0, -1, 9, 10, 10 ** 30, Ratio(3)]:
            self.assertEqual(raised(splits, n), MALFORMED, n)
            self.assertEqual(raised(cut_rows, n, (1,)), MALFORMED, n)
            self.assertEqual(raised(cut_rows, n, None), MALFORMED, n)
            self.assertEqual(raised(cut_sum, n, []), MALFORMED, n)
            self.assertEqual(raised(cut_sum, n, [1]), MALFORMED, n)
        self.assertEqual(raised(cut_sum, 9, [1] * 255), MALFORMED)

    def test_cut_sum(self):
        self.told(cut_sum(1, []), "1: 0")
        self.told(cut_sum(1, ()), "1: 0")
        self.told(cut_sum(2, [Ratio(1, 2)]), "2: 0 1/2; 1/2 0")
        self.told(cut_sum(3, (1, Ratio(1, 2), 4)), "3: 0 3/2 9/2; 3/2 0 5; 9/2 5 0")
        random = seeded(65)
        kinds = []
        for n in [*range(1, 7)] * 12 + [7, 7, 8, 8]:
            every = subsets(n)
            weights = [random.choice((0, 0, 0, random.randint(1, 5), Ratio(1, random.randint(1, 5)))) for _ in every]
            rows = [[sum((value(w) for w, s in zip(weights, every) if (x in s) != (y in s)), Fraction(0))
                     for y in range(n)] for x in range(n)]
            kinds.append(is_metric(rows))
            if kinds[-1]:
                self.due(cut_sum(n, weights), rows)
                self.due(cut_sum(n, tuple(weights)), rows)
            else:
                self.assertEqual(raised(cut_sum, n, weights), NO_METRIC)
        self.assertGreater(min(kinds.count(True), kinds.count(False)), 10)

    def test_single_cuts(self):
        for n in range(3, 9):
            for at in range(0, 2 ** (n - 1) - 1, 5):
                weights = [0] * (2 ** (n - 1) - 1)
                weights[at] = 1
                self.assertEqual(raised(cut_sum, n, weights), NO_METRIC)

    def test_weights_of_other_kinds(self):
        for bad in OTHERS + [-1, Ratio(-1, 2)]:
            for weights in ([bad, 1, 1], (1, 1, bad), [0, bad, 0], [bad] * 3):
                self.assertEqual(raised(cut_sum, 3, weights), MALFORMED, bad)
        for bad in (None, True, "", "111", 3, Ratio(3), ONE, [], (), [1], [1, 1], [1] * 4, (0, 0), [0] * 4, [-1, 0, 0]):
            self.assertEqual(raised(cut_sum, 3, bad), MALFORMED, bad)
        for bad in (None, 0, [1], (0,), [[]], ONE):
            self.assertEqual(raised(cut_sum, 1, bad), MALFORMED, bad)
        self.assertEqual(raised(cut_sum, 3, [0, 0, 0]), NO_METRIC)
        self.assertEqual(raised(cut_sum, 2, (Ratio(0),)), NO_METRIC)


class Examples(Case):
    def test_the_document(self):
        self.assertEqual(str(cycle([1, 1, 2])), "3: 0 1 2; 1 0 1; 2 1 0")
        self.assertEqual(splits(3), ((1,), (1, 2), (2,)))

    def test_every_metric_is_one(self):
        for first, second in combinations([path([1, 2, 1]), cycle([1, 2, 3, 4]), star([1, 1, 2, 2]), complete(4, 3)], 2):
            for m in (added(first, second), greater(first, second), truncated(first, 2), restricted(second, [3, 1])):
                self.assertTrue(is_metric(table(m)))


if __name__ == "__main__":
    unittest.main()
