import unittest
from fractions import Fraction
from itertools import permutations, product

from metricparts.build import complete, cycle, path
from metricparts.errors import Refused
from metricparts.metric import Metric, read_metric
from metricparts.ratio import Ratio
from metricparts.ultra import failing_triple, hierarchy, is_ultrametric, single_linkage
from tests.helper import is_metric, metrics, q, raised, random_table, ratio_rows, seeded, shown, table

ONE = Metric([[0]])


def failing(d):
    """Return the least triple of points of a table for which the condition does not hold, or None."""
    for x, y, z in product(range(len(d)), repeat=3):
        if d[x][z] > d[x][y] and d[x][z] > d[y][z]:
            return (x, y, z)
    return None


def least_steps(d):
    """Return the table of the least greatest steps of all paths, which enter no point twice."""
    n = len(d)
    found = [[Fraction(0)] * n for _ in range(n)]
    for x, y in permutations(range(n), 2):
        others = [z for z in range(n) if z not in (x, y)]
        ways = [(x, *some, y) for size in range(n - 1) for some in permutations(others, size)]
        found[x][y] = min(max(d[a][b] for a, b in zip(way, way[1:])) for way in ways)
    return found


def flattened(d):
    """Return the same table by thresholds: two points belong together from the least number on that links them."""
    n = len(d)
    found = [[Fraction(0)] * n for _ in range(n)]
    for height in sorted({item for row in d for item in row}, reverse=True):
        parts = parts_at(d, height)
        for x, y in permutations(range(n), 2):
            if parts[x] == parts[y]:
                found[x][y] = height
    return found


def parts_at(d, height):
    """Return for each point the least point that is linked to it by steps of at most the height."""
    parts = list(range(len(d)))
    for _ in d:
        for x, y in product(range(len(d)), repeat=2):
            if d[x][y] <= height:
                parts[x] = parts[y] = min(parts[x], parts[y])
    return parts


def ultrametrics(seed, many):
    """Give ultrametrics of 1 to 8 points, many of them with equal heights."""
    random = seeded(seed)
    for n in range(1, 9):
        for at in range(many):
            d = flattened(random_table(random, n))
            if at % 2:
                d = [[Fraction(-(-item // 1)) for item in row] for row in d]
            yield Metric(ratio_rows(d))


def sets_of(d):
    """Return the list of the pairs of the height and the members of the hierarchy of a table, by its definition."""
    found = set()
    for height in {item for row in d for item in row}:
        for x in range(len(d)):
            members = tuple(y for y in range(len(d)) if d[x][y] <= height)
            if len(members) > 1:
                found.add((max(d[a][b] for a in members for b in members), members))
    return sorted(found)


class Ultrametrics(unittest.TestCase):
    def test_told_examples(self):
        self.assertIs(is_ultrametric(ONE), True)
        self.assertIs(is_ultrametric(path([3])), True)
        self.assertIs(is_ultrametric(complete(8, Ratio(1, 3))), True)
        self.assertIs(is_ultrametric(read_metric("3: 0 1 2; 1 0 2; 2 2 0")), True)
        self.assertIs(is_ultrametric(path([1, 1])), False)
        self.assertIsNone(failing_triple(ONE))
        self.assertIsNone(failing_triple(complete(3, 1)))
        self.assertEqual(failing_triple(path([1, 1])), (0, 1, 2))
        self.assertEqual(failing_triple(read_metric("3: 0 2 1; 2 0 1; 1 1 0")), (0, 2, 1))
        self.assertEqual(failing_triple(read_metric("3: 0 1 1; 1 0 2; 1 2 0")), (1, 0, 2))
        self.assertEqual(failing_triple(cycle([1, 1, 1, 1])), (0, 1, 2))
        self.assertEqual(failing_triple(read_metric("3: 0 3 2; 3 0 5/2; 2 5/2 0")), (0, 2, 1))

    def test_against_the_definition(self):
        kinds = []
        for m in [*metrics(91, 12), *ultrametrics(92, 4)]:
            due = failing(table(m))
            self.assertEqual(shown(failing_triple(m)), shown(due))
            self.assertIs(is_ultrametric(m), due is None)
            kinds.append(due is None)
        self.assertGreater(min(kinds.count(True), kinds.count(False)), 25)

    def test_by_equivalences(self):
        for m in [*metrics(93, 4), *ultrametrics(94, 2)]:
            d = table(m)
            near = [{(x, y) for x, y in product(range(m.n), repeat=2) if d[x][y] <= height} for row in d for height in row]
            good = all((x, v) in some for some in near for x, y in some for u, v in some if y == u)
            self.assertIs(is_ultrametric(m), good)


class Hierarchies(unittest.TestCase):
    def test_told_examples(self):
        self.assertEqual(hierarchy(ONE), ())
        self.assertEqual(shown(hierarchy(path([3]))), shown(((q(3), (0, 1)),)))
        self.assertEqual(shown(hierarchy(complete(4, Ratio(1, 2)))), shown(((q("1/2"), (0, 1, 2, 3)),)))
        m = read_metric("5: 0 3 1 3 3; 3 0 3 1 2; 1 3 0 3 3; 3 1 3 0 2; 3 2 3 2 0")
        due = ((q(1), (0, 2)), (q(1), (1, 3)), (q(2), (1, 3, 4)), (q(3), (0, 1, 2, 3, 4)))
        self.assertEqual(shown(hierarchy(m)), shown(due))
        # The heights are ordered as numbers: 2/3 comes before 3/4 and 10.
        m = read_metric("5: 0 3/4 10 10 10; 3/4 0 10 10 10; 10 10 0 2/3 9; 10 10 2/3 0 9; 10 10 9 9 0")
        due = ((q("2/3"), (2, 3)), (q("3/4"), (0, 1)), (q(9), (2, 3, 4)), (q(10), (0, 1, 2, 3, 4)))
        self.assertEqual(shown(hierarchy(m)), shown(due))

    def test_against_the_definition(self):
        longest = 0
        for m in ultrametrics(95, 8):
            found = hierarchy(m)
            self.assertEqual(shown(found), shown(tuple((q(height), members) for height, members in sets_of(table(m)))))
            longest = max(longest, len(found))
        self.assertGreater(longest, 4)

    def test_it_determines_the_ultrametric(self):
        for m in ultrametrics(96, 4):
            found = hierarchy(m)
            for x, y in permutations(range(m.n), 2):
                least = min((members for _, members in found if x in members and y in members), key=len)
                self.assertEqual(shown(dict((b, a) for a, b in found)[least]), shown(m.distance(x, y)))

    def test_other_metrics_are_refused(self):
        refused = 0
        for m in metrics(97, 6):
            due = None if failing(table(m)) is None else (Refused, "ultrametric")
            self.assertEqual(raised(hierarchy, m), due)
            refused += due is not None
        self.assertGreater(refused, 20)


class Linkage(unittest.TestCase):
    def test_told_examples(self):
        self.assertEqual(str(single_linkage(ONE)), "1: 0")
        self.assertEqual(str(single_linkage(path([1, 2, 1]))), "4: 0 1 2 2; 1 0 2 2; 2 2 0 1; 2 2 1 0")
        self.assertEqual(str(single_linkage(cycle([1, 3, 1, 2]))), "4: 0 1 2 2; 1 0 2 2; 2 2 0 1; 2 2 1 0")

    def test_against_all_paths(self):
        for m in metrics(98, 4, 6):
            self.assertEqual(table(single_linkage(m)), least_steps(table(m)))

    def test_against_thresholds(self):
        for m in metrics(99):
            found = single_linkage(m)
            self.assertIsInstance(found, Metric)
            self.assertEqual(table(found), flattened(table(m)))

    def test_an_ultrametric_at_most_the_metric_and_the_greatest_such(self):
        random = seeded(100)
        for m in metrics(101):
            d, found = table(m), table(single_linkage(m))
            self.assertTrue(is_metric(found))
            self.assertIsNone(failing(found))
            self.assertTrue(all(a <= b for row, other in zip(found, d) for a, b in zip(row, other)))
            lower = [[0 if x == y else random.randint(1, 12) for y in range(m.n)] for x in range(m.n)]
            lower = [[min(d[x][y], lower[x][y], lower[y][x]) for y in range(m.n)] for x in range(m.n)]
            other = flattened(lower)
            self.assertTrue(all(a <= b for row, high in zip(other, found) for a, b in zip(row, high)))

    def test_of_an_ultrametric(self):
        for m in ultrametrics(102, 3):
            before = shown(m.rows)
            self.assertIs(single_linkage(m) == m, True)
            self.assertEqual(shown(hierarchy(m)), shown(hierarchy(Metric(m.rows))))
            self.assertEqual(shown(m.rows), before)


if __name__ == "__main__":
    unittest.main()
