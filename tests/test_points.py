import unittest
from fractions import Fraction
from itertools import combinations, product

from metricparts.build import complete, cycle, path, star
from metricparts.metric import Metric
from metricparts.points import (
    between, centre, diameter, eccentricity, gap, gromov, hyperbolicity, medians, radius, widest,
)
from metricparts.ratio import Ratio
from tests.helper import fraction, metrics, q, shown, table

ONE = Metric([[0]])


def gap_of(d, x, y, u, v):
    """Return the gap of four points of a table."""
    sums = sorted([d[x][y] + d[u][v], d[x][u] + d[y][v], d[x][v] + d[y][u]])
    return sums[2] - sums[1]


class Segments(unittest.TestCase):
    def test_between(self):
        self.assertEqual(between(cycle([1, 1, 1, 1]), 0, 2), (0, 1, 2, 3))
        self.assertEqual(between(path([1, 2, 3]), 3, 1), (1, 2, 3))
        self.assertEqual(between(ONE, 0, 0), (0,))
        for m in metrics(71):
            d = table(m)
            for x, z in product(range(m.n), repeat=2):
                due = tuple(y for y in range(m.n) if d[x][y] + d[y][z] == d[x][z])
                self.assertEqual(shown(between(m, x, z)), shown(due))
                self.assertTrue(x in due and z in due)
                self.assertEqual(due == (x,), x == z)

    def test_medians(self):
        self.assertEqual(medians(cycle([1, 1, 1, 1]), 0, 1, 2), (1,))
        self.assertEqual(medians(complete(3, 1), 0, 1, 2), ())
        self.assertEqual(medians(path([1, 1]), 2, 0, 1), (1,))
        self.assertEqual(medians(cycle([1, 1, 1, 1]), 0, 2, 2), (2,))
        self.assertEqual(medians(ONE, 0, 0, 0), (0,))
        several = 0
        for m in metrics(72):
            d = table(m)
            for x, y, z in product(range(m.n), repeat=3):
                due = []
                for w in range(m.n):
                    sides = ((x, y), (y, z), (x, z))
                    if all(d[a][w] + d[w][b] == d[a][b] for a, b in sides):
                        due.append(w)
                self.assertEqual(shown(medians(m, x, y, z)), shown(tuple(due)))
                several += len(due) > 1
        self.assertGreater(several, 0)

    def test_medians_of_equal_points(self):
        for m in metrics(73, 2):
            for x, y in product(range(m.n), repeat=2):
                for three in ((x, x, y), (x, y, x), (y, x, x)):
                    self.assertEqual(medians(m, *three), (x,))

    def test_several_medians(self):
        # The points 3 and 4 are both between any two of 0, 1 and 2.
        rows = [[0, 2, 2, 1, 1], [2, 0, 2, 1, 1], [2, 2, 0, 1, 1], [1, 1, 1, 0, 2], [1, 1, 1, 2, 0]]
        self.assertEqual(medians(Metric(rows), 2, 0, 1), (3, 4))


class Products(unittest.TestCase):
    def test_gromov(self):
        self.assertEqual(shown(gromov(complete(3, 1), 0, 1, 2)), ("Ratio", 1, 2))
        self.assertEqual(shown(gromov(path([1, 2]), 0, 1, 2)), ("Ratio", 1, 1))
        for m in metrics(74):
            d = table(m)
            for r, x, y in product(range(m.n), repeat=3):
                found = fraction(gromov(m, r, x, y))
                self.assertEqual(found, (d[r][x] + d[r][y] - d[x][y]) / 2)
                self.assertTrue(0 <= found <= min(d[r][x], d[r][y]))
                self.assertEqual(found == 0, r in between(m, x, y))


class Widths(unittest.TestCase):
    def test_told_examples(self):
        m = path([1, 2, 4])
        self.assertEqual([shown(eccentricity(m, x)) for x in range(4)], [shown(q(k)) for k in (7, 6, 4, 7)])
        self.assertEqual((shown(radius(m)), shown(diameter(m)), centre(m)), (shown(q(4)), shown(q(7)), (2,)))
        self.assertEqual(centre(cycle([1, 1, 1, 1])), (0, 1, 2, 3))
        self.assertEqual(centre(path([1, 1, 1])), (1, 2))
        self.assertEqual((shown(radius(ONE)), shown(diameter(ONE)), centre(ONE)), (shown(q(0)), shown(q(0)), (0,)))
        self.assertEqual(shown(eccentricity(ONE, 0)), shown(q(0)))

    def test_against_the_definition(self):
        for m in metrics(75):
            d = table(m)
            far = [max(row) for row in d]
            self.assertEqual([fraction(eccentricity(m, x)) for x in range(m.n)], far)
            self.assertEqual((fraction(radius(m)), fraction(diameter(m))), (min(far), max(far)))
            self.assertEqual(shown(centre(m)), shown(tuple(x for x in range(m.n) if far[x] == min(far))))
            self.assertEqual(fraction(diameter(m)), max(max(row) for row in d))
            self.assertLessEqual(fraction(diameter(m)), 2 * fraction(radius(m)))


class Gaps(unittest.TestCase):
    def test_told_examples(self):
        self.assertEqual(str(hyperbolicity(cycle([1, 1, 1, 1]))), "1")
        self.assertEqual(shown(gap(cycle([1, 1, 1, 1]), 0, 1, 2, 3)), shown(q(2)))
        self.assertEqual(shown(hyperbolicity(cycle([1, 2, 2, 2, 1]))), shown(q(2)))
        self.assertEqual(shown(hyperbolicity(cycle([1, 1, 1, 1, 1]))), shown(q("1/2")))
        self.assertEqual(widest(cycle([1] * 8)), (0, 2, 4, 6))
        for m in (path([1, 2, 3, 4]), star([1, 2, 3, 4, 5]), complete(5, Ratio(1, 3))):
            self.assertEqual(shown(hyperbolicity(m)), shown(q(0)))
            self.assertEqual(widest(m), (0, 1, 2, 3))

    def test_gap(self):
        for m in metrics(76, 3, 5):
            d = table(m)
            for four in product(range(m.n), repeat=4):
                self.assertEqual(fraction(gap(m, *four)), gap_of(d, *four))
                if len(set(four)) < 4:
                    self.assertEqual(shown(gap(m, *four)), shown(q(0)))

    def test_the_third_sum_does_not_count(self):
        m = Metric([[0, 7, 8, 9], [7, 0, 10, 11], [8, 10, 0, q("25/2")], [9, 11, q("25/2"), 0]])
        self.assertEqual(shown(gap(m, 0, 1, 2, 3)), shown(q("1/2")))
        self.assertEqual(shown(gap(m, 3, 1, 0, 2)), shown(q("1/2")))

    def test_hyperbolicity(self):
        for m in metrics(77):
            d = table(m)
            due = max(gap_of(d, *four) for four in product(range(m.n), repeat=4)) if m.n < 6 else \
                max(gap_of(d, *four) for four in combinations(range(m.n), 4))
            self.assertEqual(fraction(hyperbolicity(m)), due / 2)

    def test_by_gromov_products(self):
        # The least number for which each product is at least the lesser one of two others, less that number.
        for m in metrics(78, 2, 6):
            d = table(m)
            due = Fraction(0)
            for r, x, y, z in product(range(m.n), repeat=4):
                first, second, third = [(d[r][a] + d[r][b] - d[a][b]) / 2 for a, b in ((x, y), (y, z), (x, z))]
                due = max(due, min(first, second) - third)
            self.assertEqual(fraction(hyperbolicity(m)), due)

    def test_widest(self):
        for m in metrics(79):
            d = table(m)
            if m.n < 4:
                self.assertIsNone(widest(m))
                self.assertEqual(shown(hyperbolicity(m)), shown(q(0)))
                continue
            fours = list(combinations(range(m.n), 4))
            most = max(gap_of(d, *four) for four in fours)
            self.assertEqual(shown(widest(m)), shown(next(four for four in fours if gap_of(d, *four) == most)))

    def test_metrics_stay_the_same(self):
        for m in metrics(80, 1):
            before = shown(m.rows)
            for call in (radius, diameter, centre, hyperbolicity, widest):
                self.assertEqual(shown(call(m)), shown(call(Metric(m.rows))))
            for call in (lambda: between(m, 0, m.n - 1), lambda: medians(m, 0, 0, m.n - 1), lambda: gromov(m, 0, 0, 0)):
                self.assertEqual(shown(call()), shown(call()))
            self.assertEqual(shown(m.rows), before)


if __name__ == "__main__":
    unittest.main()
