import math
import unittest
from fractions import Fraction
from itertools import combinations, product

from metricparts.build import added, complete, cut_sum, cycle, extended, path, restricted, scaled, star
from metricparts.cuts import (
    cube_embedding, cut_functional, cut_weights, hypermetric_failure, hypermetric_sum, is_rigid, l1_embedding,
    possible_splits,
)
from metricparts.errors import Refused
from metricparts.linear import rank
from metricparts.metric import Metric, read_metric
from metricparts.ratio import Ratio
from metricparts.simplex import feasible
from tests.helper import MALFORMED, OTHERS, fraction, metrics, q, raised, seeded, shown, subsets, table

ONE = Metric([[0]])
# Two and three points, joined across: no cut sum.
ACROSS = read_metric("5: 0 2 1 1 1; 2 0 1 1 1; 1 1 0 2 2; 1 1 2 0 2; 1 1 2 2 0")
SIX = extended(ACROSS, [1, 3, 2, 2, 2])
NO_CUTS = (Refused, "cuts")
LARGE = (Refused, "large")
MANY = (Refused, "many")


def cut(n, split):
    """Return the cut row of a split, for the pairs of points."""
    return [int((x in split) != (y in split)) for x, y in combinations(range(n), 2)]


def sum_table(n, weights):
    """Return the table of the sum of the cuts of pairs of a split and a Ratio."""
    return [[sum((fraction(w) for s, w in weights if (x in s) != (y in s)), Fraction(0)) for y in range(n)]
            for x in range(n)]


def sum_of(d, b):
    """Return the hypermetric sum, by its definition."""
    return sum((b[x] * b[y] * d[x][y] for x, y in combinations(range(len(d)), 2)), Fraction(0))


def failure(d, bound):
    """Return the least tuple of integers with the sum 1 and a hypermetric sum above 0, or None."""
    for b in product(range(-bound, bound + 1), repeat=len(d)):
        if sum(b) == 1 and sum_of(d, b) > 0:
            return b
    return None


def is_cut_sum(m):
    """Tell if a metric on up to six points is a cut sum: there the hypermetric inequalities are enough."""
    return m.n < 5 or failure(table(m), 1 if m.n == 5 else 2) is None


def cut_sums(seed, many, most=6):
    """Give cut sums of 1 to 6 points with few and with many weights."""
    random = seeded(seed)
    for n in range(1, most + 1):
        for at in range(many):
            every = subsets(n)
            some = random.sample(every, min(len(every), random.randint(n - 1, n + 2)))
            weights = [random.choice((1, 2, Ratio(1, 2), Ratio(2, 3))) if split in some or at == 0 else 0 for split in every]
            if raised(cut_sum, n, weights) is None:
                yield cut_sum(n, weights)


def five_points(seed):
    """Give metrics of five points, of which some are near to the one that is joined across."""
    random = seeded(seed)
    for m in metrics(seed, 20, 5):
        if m.n == 5:
            yield m
            yield added(scaled(restricted(ACROSS, random.sample(range(5), 5)), random.choice((1, 3, 9))), m)


class Weights(unittest.TestCase):
    def check(self, m):
        """Hold weights and functional against the definition, and tell if the metric is a cut sum."""
        weights, functional = cut_weights(m), cut_functional(m)
        self.assertNotEqual(weights is None, functional is None)
        if weights is not None:
            self.assertIsInstance(weights, tuple)
            self.assertTrue(all(type(pair) is tuple and len(pair) == 2 for pair in weights))
            some = [split for split, _ in weights]
            self.assertEqual(some, sorted(set(some) & set(subsets(m.n))))
            self.assertTrue(all(isinstance(weight, Ratio) and weight.n > 0 for _, weight in weights))
            self.assertEqual(sum_table(m.n, weights), table(m))
            return True
        pairs = list(combinations(range(m.n), 2))
        self.assertEqual((type(functional), len(functional)), (tuple, len(pairs)))
        self.assertTrue(all(isinstance(number, Ratio) for number in functional))
        values = [fraction(number) for number in functional]
        for split in subsets(m.n):
            self.assertLessEqual(sum(a * b for a, b in zip(values, cut(m.n, split))), 0)
        self.assertGreater(sum(a * fraction(b) for a, b in zip(values, m.pairs())), 0)
        return False

    def test_told_examples(self):
        self.assertEqual(cut_weights(ONE), ())
        self.assertIsNone(cut_functional(ONE))
        self.assertEqual(shown(cut_weights(path([3]))), shown((((1,), q(3)),)))
        self.assertEqual(shown(cut_weights(path([1, 2]))), shown((((1, 2), q(1)), ((2,), q(2)))))
        self.assertEqual(shown(cut_weights(cycle([1, 1, 1, 1]))), shown((((1, 2), q(1)), ((2, 3), q(1)))))

    def test_those_that_are_no_cut_sum(self):
        for m in (ACROSS, SIX, extended(SIX, [4, 4, 4, 4, 4, 4])):
            self.assertIs(self.check(m), False)

    def test_up_to_four_points(self):
        for m in metrics(141, 20, 4):
            self.assertIs(self.check(m), True)

    def test_cut_sums(self):
        for m in cut_sums(142, 6):
            self.assertIs(self.check(m), True)

    def test_against_hypermetric_sums(self):
        kinds = []
        for m in [*metrics(143, 2, 4), *five_points(144)]:
            kinds.append(self.check(m))
            self.assertIs(kinds[-1], is_cut_sum(m))
        self.assertGreater(min(kinds.count(True), kinds.count(False)), 5)

    def test_of_six_points(self):
        for m in metrics(145, 3, 6):
            if m.n == 6:
                self.assertIs(self.check(m), is_cut_sum(m))

    def test_of_seven_and_eight_points(self):
        for m in metrics(146, 2):
            self.check(m)
        self.assertIs(self.check(star([1, 2, 3, 4, 5, 6, 7, 8])), True)


class Embeddings(unittest.TestCase):
    def test_l1_embedding(self):
        self.assertEqual(l1_embedding(ONE), ((),))
        self.assertIsNone(l1_embedding(ACROSS))
        self.assertIsNone(l1_embedding(SIX))
        for m in [*metrics(147, 4, 6), *cut_sums(148, 4), path([1] * 7), cycle([1] * 8)]:
            points = l1_embedding(m)
            self.assertEqual(points is None, cut_weights(m) is None)
            if points is None:
                continue
            self.assertEqual((type(points), len(points)), (tuple, m.n))
            self.assertEqual(len({len(point) for point in points}), 1)
            self.assertTrue(all(type(point) is tuple for point in points))
            self.assertTrue(all(isinstance(item, Ratio) for point in points for item in point))
            rows = [[sum((abs(fraction(a) - fraction(b)) for a, b in zip(v, w)), Fraction(0)) for w in points]
                    for v in points]
            self.assertEqual(rows, table(m))

    def test_cube_embedding(self):
        self.assertEqual(shown(cube_embedding(ONE)), shown((1, ((),))))
        self.assertEqual(shown(cube_embedding(path([2]))), shown((1, ((0, 0), (1, 1)))))
        self.assertEqual(shown(cube_embedding(path([Ratio(2, 3)]))), shown((3, ((0, 0), (1, 1)))))
        self.assertEqual(cube_embedding(path([Ratio(1, 2), Ratio(1, 3)]))[0], 6)
        self.assertEqual(cube_embedding(complete(3, 1))[0], 2)
        self.assertIsNone(cube_embedding(ACROSS))
        self.assertIsNone(cube_embedding(SIX))
        for m in [*metrics(149, 6, 5), *cut_sums(150, 6), path([1] * 7), cycle([1] * 8)]:
            found = cube_embedding(m)
            self.assertEqual(found is None, cut_weights(m) is None)
            if found is not None:
                self.check_cube(m, found)

    def check_cube(self, m, found):
        self.assertEqual((type(found), len(found)), (tuple, 2))
        s, points = found
        self.assertIs(type(s), int)
        self.assertGreaterEqual(s, 1)
        self.assertEqual((type(points), len(points)), (tuple, m.n))
        self.assertEqual(len({len(point) for point in points}), 1)
        self.assertTrue(all(type(point) is tuple for point in points))
        self.assertTrue(all(type(item) is int and item in (0, 1) for point in points for item in point))
        rows = [[sum(a != b for a, b in zip(v, w)) for w in points] for v in points]
        self.assertEqual(rows, [[s * item for item in row] for row in table(m)])
        # Each place is one of a split: told by the set that lacks the point 0.
        places = list(zip(*points))
        self.assertTrue(all(place[0] == 0 and 1 in place for place in places))
        # s is the least number for these weights exactly if nothing divides it and all of s times the weights.
        self.assertEqual(math.gcd(s, *[places.count(place) for place in set(places)]), 1)

    def test_too_many_places(self):
        for m, places in ((path([20000]), 20000), (path([10000, 10000]), 20000), (path([Ratio(20000, 7)]), 20000),
                          (path([Ratio(1, 10 ** 9)]), 1), (path([1, Ratio(1, 19999)]), 20000)):
            s, points = cube_embedding(m)
            self.assertEqual({len(point) for point in points}, {places})
            self.assertEqual(sum(points[-1]), s * fraction(m.distance(0, m.n - 1)))
        for m in (path([20001]), path([10000, 10001]), path([Ratio(20001, 7)]), path([1, Ratio(1, 20000)]),
                  path([10 ** 300]), path([1, Ratio(1, 10 ** 300)])):
            self.assertEqual(raised(cube_embedding, m), LARGE)


class Possible(unittest.TestCase):
    def due(self, m):
        """Return the possible splits, each held against the definition by itself."""
        columns = [tuple(q(item) for item in cut(m.n, split)) for split in subsets(m.n)]
        away = tuple(-number for number in m.pairs())
        found = []
        for split, column in zip(subsets(m.n), columns):
            if feasible(columns + [away], tuple(-item for item in column))[0] == "weights":
                found.append(split)
        return tuple(found)

    def test_told_examples(self):
        self.assertEqual(possible_splits(cycle([1, 1, 1, 1])), ((1, 2), (2, 3)))
        self.assertIs(is_rigid(cycle([1, 1, 1, 1])), True)
        self.assertEqual(possible_splits(ONE), ())
        self.assertIs(is_rigid(ONE), True)
        self.assertEqual(possible_splits(path([3])), ((1,),))
        self.assertEqual(possible_splits(path([1, 2])), ((1, 2), (2,)))
        self.assertEqual(possible_splits(complete(4, 1)), tuple(subsets(4)))
        self.assertIs(is_rigid(complete(4, 1)), False)
        self.assertIs(is_rigid(complete(3, 1)), True)
        self.assertEqual(len(possible_splits(complete(8, 1))), 127)
        self.assertIs(is_rigid(complete(8, 1)), False)
        self.assertIs(is_rigid(path([1] * 7)), True)

    def test_four_points(self):
        # The weights of four points can be changed by one number alone: the sum of the single points less the pairs.
        random = seeded(151)
        kinds = []
        for _ in range(60):
            weights = [Fraction(random.choice((0, 0, 1, 2, 3)), random.choice((1, 2))) for _ in range(7)]
            if raised(cut_sum, 4, [q(weight) for weight in weights]) is not None:
                continue
            m = cut_sum(4, [q(weight) for weight in weights])
            change = [1 if len(split) % 2 else -1 for split in subsets(4)]
            up = min(weight for weight, way in zip(weights, change) if way < 0)
            down = min(weight for weight, way in zip(weights, change) if way > 0)
            most = [weight + (up if way > 0 else down) for weight, way in zip(weights, change)]
            due = tuple(split for split, weight in zip(subsets(4), most) if weight > 0)
            self.assertEqual(shown(possible_splits(m)), shown(due))
            self.assertIs(is_rigid(m), up == down == 0)
            kinds.append(up == down == 0)
        self.assertGreater(min(kinds.count(True), kinds.count(False)), 5)

    def test_against_the_definition(self):
        kinds = []
        for m in [*cut_sums(152, 5, 5), *cut_sums(153, 1, 6), *metrics(154, 5, 5), cycle([1] * 6), cycle([1, 2, 3, 4, 5, 6])]:
            if cut_weights(m) is None:
                self.assertEqual(raised(possible_splits, m), NO_CUTS)
                self.assertEqual(raised(is_rigid, m), NO_CUTS)
                continue
            due = self.due(m)
            self.assertEqual(shown(possible_splits(m)), shown(due))
            self.assertTrue({split for split, _ in cut_weights(m)} <= set(due))
            columns = [tuple(q(item) for item in cut(m.n, split)) for split in due]
            rigid = rank(columns, len(m.pairs())) == len(columns)
            self.assertIs(is_rigid(m), rigid)
            kinds.append(rigid)
        self.assertGreater(min(kinds.count(True), kinds.count(False)), 3)

    def test_other_metrics_are_refused(self):
        for m in (ACROSS, SIX):
            self.assertEqual(raised(possible_splits, m), NO_CUTS)
            self.assertEqual(raised(is_rigid, m), NO_CUTS)


class Hypermetric(unittest.TestCase):
    def test_sum(self):
        self.assertEqual(shown(hypermetric_sum(ONE, [5])), shown(q(0)))
        self.assertEqual(shown(hypermetric_sum(path([Ratio(1, 2)]), (3, -5))), shown(q("-15/2")))
        self.assertEqual(shown(hypermetric_sum(path([1, 2]), [1, -1, 1])), shown(q(0)))
        self.assertEqual(shown(hypermetric_sum(ACROSS, [-1, -1, 1, 1, 1])), shown(q(2)))
        random = seeded(155)
        for m in metrics(156):
            b = [random.randint(-4, 4) for _ in range(m.n)]
            self.assertEqual(fraction(hypermetric_sum(m, b)), sum_of(table(m), b))
            self.assertEqual(fraction(hypermetric_sum(m, tuple(b))), sum_of(table(m), b))

    def test_sum_of_other_values(self):
        for value in (True, None, "", "123", 3, Ratio(1), ONE, path([1, 2]), [], (), [1], [1, 1], [1, 1, 1, 1], (0, 0)):
            self.assertEqual(raised(hypermetric_sum, path([1, 2]), value), MALFORMED, value)
        for bad in OTHERS + [Ratio(0), Ratio(1)]:
            for value in ([bad, 1, 1], (1, bad, 1), [1, 1, bad]):
                self.assertEqual(raised(hypermetric_sum, path([1, 2]), value), MALFORMED, bad)

    def test_failure(self):
        self.assertEqual(hypermetric_failure(ACROSS, 1), (-1, -1, 1, 1, 1))
        self.assertIsNone(hypermetric_failure(ONE, 5))
        self.assertIsNone(hypermetric_failure(path([1, 2]), 13))
        found = 0
        for m in [*metrics(157, 3, 4), *five_points(158)]:
            due = failure(table(m), 1)
            self.assertEqual(shown(hypermetric_failure(m, 1)), shown(due))
            found += due is not None
        self.assertGreater(found, 5)

    def test_failure_with_greater_bounds(self):
        for m, bound in ((ACROSS, 2), (ACROSS, 3), (SIX, 1), (SIX, 2)):
            self.assertEqual(shown(hypermetric_failure(m, bound)), shown(failure(table(m), bound)))

    def test_none_for_cut_sums(self):
        for m in cut_sums(159, 2):
            self.assertIsNone(hypermetric_failure(m, 1))
        self.assertIsNone(hypermetric_failure(complete(8, 1), 1))

    def test_bounds_of_other_kinds(self):
        for bound in OTHERS + [0, -1, Ratio(1), Ratio(2)]:
            for m in (ONE, ACROSS, complete(8, 1)):
                self.assertEqual(raised(hypermetric_failure, m, bound), MALFORMED, bound)

    def test_many(self):
        # The greatest bounds for which 2 bound + 1 to the power n is at most 20000.
        for n, most in ((1, 9999), (2, 70), (3, 13), (4, 5), (5, 3), (6, 2), (7, 1), (8, 1)):
            self.assertLessEqual((2 * most + 1) ** n, 20000)
            self.assertGreater((2 * most + 3) ** n, 20000)
            self.assertIsNone(hypermetric_failure(complete(n, 1), most))
            for bound in (most + 1, most + 2, 10 ** 30):
                self.assertEqual(raised(hypermetric_failure, complete(n, 1), bound), MANY)

    def test_metrics_stay_the_same(self):
        for m in (ACROSS, cycle([1, 2, 3, 4])):
            before = shown(m.rows)
            for call in (cut_weights, cut_functional, l1_embedding, cube_embedding, lambda m: hypermetric_failure(m, 1),
                         lambda m: hypermetric_sum(m, [1] * m.n)):
                self.assertEqual(shown(call(m)), shown(call(Metric(m.rows))))
                self.assertEqual(shown(m.rows), before)


if __name__ == "__main__":
    unittest.main()
