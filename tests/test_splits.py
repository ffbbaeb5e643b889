import unittest
from fractions import Fraction
from itertools import combinations, permutations, product

from metricparts.build import complete, cycle, extended, path, star
from metricparts.metric import Metric, is_pseudometric, read_metric
from metricparts.ratio import Ratio
from metricparts.splits import (
    are_compatible, are_weakly_compatible, decomposition, is_split, is_totally_decomposable, isolation_index,
)
from metricparts.tree import is_tree_metric, tree_of
from tests.helper import MALFORMED, OTHERS, fraction, metrics, q, raised, seeded, shown, subsets, table

ONE = Metric([[0]])
# Two and three points, joined across.
ACROSS = read_metric("5: 0 2 1 1 1; 2 0 1 1 1; 1 1 0 2 2; 1 1 2 0 2; 1 1 2 2 0")
# Values that are no split of any number of points.
NONE = [value for value in OTHERS if value not in ((1,), (1, 2))] + [
    0, 1, Ratio(1), ONE, (0,), (0, 1), (0, 1, 2), (-1,), (-1, 1), (2, 1), (1, 1), [1], [1, 2], (True,), (True, 2), (1, True),
    (Ratio(1),), ("1",), (None,), ((1,),), "1", "12", (1, 2, 2), (1, 3, 2), (1, None), (8,), (1, 8), (10 ** 30,), ((1, 2),),
]


def index_of(d, split):
    """Return the isolation index by its definition, over all points of both sides."""
    others = [x for x in range(len(d)) if x not in split]
    numbers = [max(d[a][b] + d[c][e], d[a][e] + d[c][b]) - d[a][c] - d[b][e]
               for a, c in product(split, repeat=2) for b, e in product(others, repeat=2)]
    return max(Fraction(0), min(numbers) / 2)


def table_sum(n, parts):
    """Return the table of the sum of the cuts times their weights."""
    return [[sum((weight for split, weight in parts if (x in split) != (y in split)), Fraction(0)) for y in range(n)]
            for x in range(n)]


def sides(n, split):
    """Return the two sets of a split."""
    return (set(split), set(range(n)) - set(split))


def weakly(n, three):
    """Tell by trying all points if three splits are weakly compatible."""
    def with_first(split, some):
        # The first two of the four points are on one side, the two others on the other one.
        inside = [point in split for point in some]
        return inside[0] == inside[1] and inside[2] == inside[3] and inside[0] != inside[2]

    one, two, last = three
    return not any(with_first(one, (a, b, c, e)) and with_first(two, (a, c, b, e)) and with_first(last, (a, e, b, c))
                   for a, b, c, e in product(range(n), repeat=4))


def stretches(n):
    """Return the list of the splits into two stretches of neighbouring points on a circle."""
    return [tuple(range(start, end)) for start in range(1, n) for end in range(start + 1, n + 1)]


class Kinds(unittest.TestCase):
    def test_splits(self):
        for n in range(1, 9):
            every = set(subsets(n))
            for size in range(4):
                for value in product(range(-1, 10), repeat=size):
                    self.assertIs(is_split(n, value), value in every)
            for value in subsets(8):
                self.assertIs(is_split(n, value), value in every)

    def test_every_other_value(self):
        for n in range(1, 9):
            for value in NONE:
                self.assertIs(is_split(n, value), False, value)
            for value in OTHERS:
                self.assertIs(is_split(n, value), shown(value) in [shown(split) for split in subsets(n)], value)


class Indexes(unittest.TestCase):
    def test_told_examples(self):
        self.assertEqual(shown(isolation_index(path([3]), (1,))), shown(q(3)))
        self.assertEqual(shown(isolation_index(complete(3, 1), (1,))), shown(q("1/2")))
        self.assertEqual(shown(isolation_index(path([1, 2]), (1,))), shown(q(0)))
        self.assertEqual(shown(isolation_index(cycle([1, 1, 1, 1]), (1, 2))), shown(q(1)))
        self.assertEqual(shown(isolation_index(cycle([1, 1, 1, 1]), (1, 3))), shown(q(0)))

    def test_against_the_definition(self):
        above = 0
        for m in metrics(131, 3):
            d = table(m)
            for split in subsets(m.n) if m.n < 8 else subsets(8)[::7]:
                found = isolation_index(m, split)
                self.assertIsInstance(found, Ratio)
                self.assertEqual(fraction(found), index_of(d, split))
                above += not found.is_zero()
        self.assertGreater(above, 60)

    def test_a_negative_number_counts_as_zero(self):
        m = cycle([1, 1, 1, 1])
        d = table(m)
        self.assertLess(max(d[1][0] + d[3][2], d[1][2] + d[3][0]) - d[1][3] - d[0][2], 0)
        self.assertEqual(shown(isolation_index(m, (1, 3))), shown(q(0)))

    def test_values_that_are_no_split(self):
        for m in (ONE, path([1]), path([1, 2]), ACROSS, complete(8, 1)):
            for value in NONE + [(m.n,), (1, m.n), ()]:
                self.assertEqual(raised(isolation_index, m, value), MALFORMED, value)
        self.assertEqual(raised(isolation_index, ONE, (1,)), MALFORMED)

    def test_less_than_the_index_may_be_taken_away(self):
        random = seeded(132)
        for m in metrics(133, 2, 6):
            d = table(m)
            indexes = {split: index_of(d, split) for split in subsets(m.n)}
            for split, index in indexes.items():
                part = index * random.choice((Fraction(1), Fraction(1, 2), Fraction(1, 3)))
                less = [[a - b for a, b in zip(*rows)] for rows in zip(d, table_sum(m.n, [(split, part)]))]
                self.assertTrue(is_pseudometric([[q(item) for item in row] for row in less]))
                self.assertEqual(index_of(less, split), index - part)
                self.assertTrue(all(index_of(less, other) == indexes[other] for other in indexes if other != split))


class Decompositions(unittest.TestCase):
    def test_told_examples(self):
        self.assertEqual(shown(decomposition(ONE)), shown(((), ((q(0),),))))
        nothing = ((q(0),) * 4,) * 4
        due = ((((1, 2), q(1)), ((2, 3), q(1))), nothing)
        self.assertEqual(shown(decomposition(cycle([1, 1, 1, 1]))), shown(due))
        due = tuple((split, q(1)) for split in ((1,), (1, 2, 3), (2,), (3,)))
        self.assertEqual(shown(decomposition(star([1, 1, 1, 1]))), shown((due, nothing)))

    def test_a_rest_that_is_not_zero(self):
        self.assertEqual(shown(decomposition(ACROSS)), shown(((), ACROSS.rows)))
        # A further point hangs at the point 0: in the rest both have the distance 0.
        m = extended(ACROSS, [1, 3, 2, 2, 2])
        parts, rest = decomposition(m)
        self.assertEqual(shown(parts), shown((((5,), q(1)),)))
        self.assertEqual(shown(rest[0][5]), shown(q(0)))
        self.assertEqual(shown(rest[5]), shown(rest[0]))
        self.assertEqual(shown(rest[0][:5]), shown(ACROSS.rows[0]))

    def test_against_the_definition(self):
        rests = 0
        for m in metrics(134, 3, 7):
            d = table(m)
            parts, rest = decomposition(m)
            due = [(split, index_of(d, split)) for split in subsets(m.n)]
            due = [(split, index) for split, index in due if index > 0]
            self.assertEqual(shown(parts), shown(tuple((split, q(index)) for split, index in due)))
            added = table_sum(m.n, due)
            left = tuple(tuple(q(d[x][y] - added[x][y]) for y in range(m.n)) for x in range(m.n))
            self.assertEqual(shown(rest), shown(left))
            self.assertIs(is_pseudometric(rest), True)
            self.assertTrue(all(index_of([[fraction(item) for item in row] for row in rest], split) == 0
                                for split in subsets(m.n)))
            good = all(item.is_zero() for row in rest for item in row)
            self.assertIs(is_totally_decomposable(m), good)
            rests += not good
        self.assertGreater(rests, 3)

    def test_sums_of_stretches_of_a_circle(self):
        random = seeded(135)
        for n in range(2, 8):
            for _ in range(3):
                weights = []
                for split in sorted(stretches(n)):
                    # A split of a single point with a weight above 0 for each point makes the sum a metric.
                    single = len(split) in (1, n - 1)
                    weight = Fraction(random.choice((1, 2) if single else (0, 1, 2)), random.choice((1, 3)))
                    weights += [(split, weight)] if weight > 0 else []
                m = Metric([[q(item) for item in row] for row in table_sum(n, weights)])
                due = tuple((split, q(weight)) for split, weight in weights)
                self.assertEqual(shown(decomposition(m)), shown((due, ((q(0),) * n,) * n)))
                self.assertIs(is_totally_decomposable(m), True)

    def test_totally_decomposable(self):
        for m in (ONE, path([1, 2, 3]), cycle([1, 2, 3, 4, 5]), complete(5, 1), cycle([1] * 8)):
            self.assertIs(is_totally_decomposable(m), True)
        for m in (ACROSS, extended(ACROSS, [1, 3, 2, 2, 2])):
            self.assertIs(is_totally_decomposable(m), False)

    def test_any_three_are_weakly_compatible(self):
        for m in metrics(136, 2, 7):
            some = [split for split, _ in decomposition(m)[0]]
            self.assertLessEqual(len(some), m.n * (m.n - 1) // 2)
            for three in list(combinations(some, 3))[:40]:
                self.assertIs(are_weakly_compatible(m.n, *three), True)

    def test_metrics_stay_the_same(self):
        before = shown(ACROSS.rows)
        for call in (decomposition, is_totally_decomposable, lambda m: isolation_index(m, (1,))):
            self.assertEqual(shown(call(ACROSS)), shown(call(Metric(ACROSS.rows))))
            self.assertEqual(shown(ACROSS.rows), before)


class Compatible(unittest.TestCase):
    def test_told_examples(self):
        self.assertIs(are_compatible(4, (1,), (2,)), True)
        self.assertIs(are_compatible(4, (1, 2), (1,)), True)
        self.assertIs(are_compatible(4, (1, 2), (2, 3)), False)
        self.assertIs(are_compatible(4, (1, 2), (1, 2)), True)
        self.assertIs(are_compatible(4, (1, 2, 3), (2, 3)), True)
        self.assertIs(are_weakly_compatible(4, (1, 2), (2, 3), (1, 3)), False)
        self.assertIs(are_weakly_compatible(4, (1, 2), (2, 3), (2, 3)), True)
        self.assertIs(are_weakly_compatible(5, (1, 2), (2, 3), (3, 4)), True)
        self.assertIs(are_compatible(2, (1,), (1,)), True)
        self.assertIs(are_weakly_compatible(2, (1,), (1,), (1,)), True)

    def test_two_against_the_definition(self):
        for n in range(2, 6):
            for one, two in product(subsets(n), repeat=2):
                due = any(not (a & b) for a in sides(n, one) for b in sides(n, two))
                self.assertIs(are_compatible(n, one, two), due)

    def test_three_against_the_definition(self):
        kinds = []
        for n in range(2, 6):
            for three in combinations(subsets(n), 3):
                due = weakly(n, three)
                kinds.append(due)
                for order in permutations(three):
                    self.assertIs(are_weakly_compatible(n, *order), due)
            for one, two in product(subsets(n)[:6], repeat=2):
                for three in ((one, one, two), (one, two, one), (two, one, one)):
                    self.assertIs(are_weakly_compatible(n, *three), True)
        self.assertGreater(min(kinds.count(True), kinds.count(False)), 30)

    def test_three_of_eight_points(self):
        random = seeded(137)
        kinds = []
        for _ in range(60):
            three = random.sample(subsets(8), 3)
            kinds.append(weakly(8, three))
            self.assertIs(are_weakly_compatible(8, *three), kinds[-1])
        self.assertGreater(min(kinds.count(True), kinds.count(False)), 2)

    def test_values_that_are_no_split(self):
        for n in (1, 2, 3, 4, 8):
            good = (1,)
            for value in NONE + [(n,), ()] + ([(1,)] if n == 1 else []):
                for two in ((value, good), (good, value), (value, value)):
                    self.assertEqual(raised(are_compatible, n, *two), MALFORMED, value)
                for three in ((value, good, good), (good, value, good), (good, good, value), (value,) * 3):
                    self.assertEqual(raised(are_weakly_compatible, n, *three), MALFORMED, value)


class Trees(unittest.TestCase):
    def test_the_edges_are_the_splits(self):
        for m in [*metrics(138, 3, 6), path([1, 2, 3, 1, 2, 1, 1]), star([1, 2, 3, 4, 5, 6, 7])]:
            parts, rest = decomposition(m)
            good = all(item.is_zero() for row in rest for item in row)
            good = good and all(are_compatible(m.n, a, b) for (a, _), (b, _) in combinations(parts, 2))
            self.assertIs(is_tree_metric(m), good)
            if good:
                tree = tree_of(m)
                due = []
                for x, y, length in tree.edges:
                    apart = tuple(v for v in range(m.n) if (tree.distance(v, x) + length == tree.distance(v, y)) != (
                        tree.distance(0, x) + length == tree.distance(0, y)))
                    due.append((apart, length))
                self.assertEqual(shown(parts), shown(tuple(sorted(due, key=lambda pair: pair[0]))))


if __name__ == "__main__":
    unittest.main()
