import unittest
from fractions import Fraction
from itertools import permutations, product

from metricparts.build import complete, cycle, path, restricted, scaled, star
from metricparts.errors import Refused
from metricparts.isometry import find_isometry, group, hausdorff, isometries, similarity
from metricparts.metric import Metric, read_metric
from metricparts.ratio import Ratio
from tests.helper import fraction, metrics, q, raised, random_metric, seeded, shown, table

ONE = Metric([[0]])


def kept(a, b, factor=1):
    """Return the ascending tuple of the maps from a times the factor to b that keep all distances."""
    d, e = table(a), table(b)
    if a.n != b.n:
        return ()
    return tuple(images for images in permutations(range(a.n)) if all(
        factor * d[x][y] == e[images[x]][images[y]] for x in range(a.n) for y in range(x)))


def some_pairs(seed, most=6):
    """Give pairs of metrics: isometric ones, those that differ in one distance, and unlike ones."""
    random = seeded(seed)
    before = ONE
    for m in metrics(seed, 4, most):
        order = list(range(m.n))
        random.shuffle(order)
        yield m, m
        yield m, restricted(m, order)
        yield restricted(m, order), scaled(m, 2)
        yield m, random_metric(random, m.n)
        yield m, before
        before = m


def distortion(d, e, pairs):
    """Return the greatest amount of a difference of distances of two pairs."""
    return max(abs(d[x][u] - e[y][v]) for x, y in pairs for u, v in pairs)


def all_correspondences(n, k):
    """Give all sets of pairs in which each point of both stands."""
    places = list(product(range(n), range(k)))
    for mask in range(1, 2 ** len(places)):
        pairs = [place for at, place in enumerate(places) if mask >> at & 1]
        if {x for x, _ in pairs} == set(range(n)) and {y for _, y in pairs} == set(range(k)):
            yield pairs


class Isometries(unittest.TestCase):
    def test_told_examples(self):
        self.assertEqual(isometries(path([1, 2]), path([2, 1])), ((2, 1, 0),))
        self.assertEqual(isometries(ONE, ONE), ((0,),))
        self.assertEqual(isometries(complete(3, 1), complete(3, 2)), ())
        self.assertEqual(isometries(path([1, 1]), path([1, 1])), ((0, 1, 2), (2, 1, 0)))
        self.assertEqual(find_isometry(path([1, 2]), path([2, 1])), (2, 1, 0))
        self.assertIsNone(find_isometry(path([1, 2]), path([1, 3])))
        self.assertEqual(group(star([1, 2, 3])), ((0, 1, 2),))
        self.assertEqual(group(complete(3, 1)), tuple(permutations(range(3))))
        # The images are told, not the points of which they are images.
        turned = restricted(path([1, 2, 4]), [1, 2, 3, 0])
        self.assertEqual(isometries(path([1, 2, 4]), turned), ((3, 0, 1, 2),))

    def test_against_all_maps(self):
        many = 0
        for a, b in some_pairs(81):
            due = kept(a, b)
            self.assertEqual(shown(isometries(a, b)), shown(due))
            self.assertEqual(shown(find_isometry(a, b)), shown(due[0] if due else None))
            many += len(due) > 1
        self.assertGreater(many, 5)

    def test_group(self):
        for m in metrics(82, 4, 6):
            found = group(m)
            self.assertEqual(shown(found), shown(kept(m, m)))
            for one, other in product(found[:8], repeat=2):
                self.assertIn(tuple(one[x] for x in other), found)
        self.assertEqual(group(complete(8, 1)), tuple(permutations(range(8))))
        self.assertEqual(len(group(cycle([1] * 8))), 16)

    def test_unlike_numbers_of_points(self):
        for n, k in product(range(1, 9), repeat=2):
            if n != k:
                self.assertEqual(isometries(complete(n, 1), complete(k, 1)), ())
                self.assertIsNone(find_isometry(complete(n, 1), complete(k, 1)))
                self.assertIsNone(similarity(complete(n, 1), complete(k, 1)))

    def test_equal_distances_at_other_places(self):
        # As many distances of each kind, but a way of three edges in the one and three at one point in the other.
        rows = [[[0, 1, 2, 2], [1, 0, 1, 2], [2, 1, 0, 1], [2, 2, 1, 0]], [[0, 1, 1, 1], [1, 0, 2, 2], [1, 2, 0, 2], [1, 2, 2, 0]]]
        self.assertEqual(isometries(Metric(rows[0]), Metric(rows[1])), ())
        self.assertEqual(isometries(Metric(rows[1]), Metric(rows[0])), ())


class Similar(unittest.TestCase):
    def test_told_examples(self):
        self.assertEqual(shown(similarity(path([1, 2]), path([1, Ratio(1, 2)]))), shown((q("1/2"), (2, 1, 0))))
        self.assertEqual(shown(similarity(ONE, ONE)), shown((q(1), (0,))))
        self.assertEqual(shown(similarity(complete(3, 2), complete(3, 7))), shown((q("7/2"), (0, 1, 2))))
        self.assertIsNone(similarity(path([1, 2]), path([1, 3])))
        self.assertIsNone(similarity(path([1, 1]), complete(3, 2)))

    def test_against_all_maps(self):
        found_some = 0
        for a, b in some_pairs(83, 5):
            found = similarity(a, b)
            factors = {1} if a.n == 1 else {e / table(a)[0][1] for row in table(b) for e in row if e > 0}
            due = [(q(factor), kept(a, b, factor)[0]) for factor in factors if kept(a, b, factor)]
            self.assertEqual(shown(found), shown(due[0] if due else None))
            self.assertLessEqual(len(due), 1)
            found_some += bool(due)
        self.assertGreater(found_some, 30)

    def test_of_eight_points(self):
        random = seeded(84)
        for _ in range(5):
            m = random_metric(random, 8)
            order = random.sample(range(8), 8)
            factor, images = similarity(restricted(m, order), scaled(m, Ratio(5, 3)))
            self.assertEqual(shown(factor), shown(q("5/3")))
            self.assertEqual(images, find_isometry(restricted(m, order), m))
            d = table(m)
            self.assertTrue(all(d[order[x]][order[y]] == d[images[x]][images[y]] for x, y in product(range(8), repeat=2)))


class Hausdorff(unittest.TestCase):
    def test_told_examples(self):
        self.assertEqual(shown(hausdorff(ONE, ONE)), shown(q(0)))
        self.assertEqual(shown(hausdorff(ONE, path([3]))), shown(q("3/2")))
        self.assertEqual(shown(hausdorff(path([1]), path([3]))), shown(q(1)))
        self.assertEqual(shown(hausdorff(complete(3, 1), complete(3, 2))), shown(q("1/2")))
        self.assertEqual(shown(hausdorff(path([1, 1]), complete(3, 1))), shown(q("1/2")))
        self.assertEqual(shown(hausdorff(ONE, star([1, 2, 3, 4, 5, 6, 7, 8]))), shown(q("15/2")))

    def test_against_all_correspondences(self):
        random = seeded(85)
        every = {}
        for n, k in [(1, 1), (1, 4), (4, 1), (2, 2), (2, 3), (3, 2), (3, 3), (2, 4), (4, 2)] * 6:
            a, b = random_metric(random, n), random_metric(random, k)
            sets = every.setdefault((n, k), list(all_correspondences(n, k)))
            due = min(distortion(table(a), table(b), pairs) for pairs in sets)
            self.assertEqual(fraction(hausdorff(a, b)), due / 2)

    def test_against_all_correspondences_of_twelve_pairs(self):
        random = seeded(86)
        sets = list(all_correspondences(3, 4))
        for _ in range(2):
            a, b = random_metric(random, 3), random_metric(random, 4)
            d, e = table(a), table(b)
            amounts = {(p, r): abs(d[p[0]][r[0]] - e[p[1]][r[1]]) for p in product(range(3), range(4))
                       for r in product(range(3), range(4))}
            due = min(max(amounts[p, r] for p in pairs for r in pairs) for pairs in sets)
            self.assertEqual(fraction(hausdorff(a, b)), due / 2)
            self.assertEqual(fraction(hausdorff(b, a)), due / 2)

    def test_zero_exactly_for_isometric_metrics(self):
        zeros = 0
        for a, b in some_pairs(87, 3):
            found = hausdorff(a, b)
            self.assertEqual(found.is_zero(), find_isometry(a, b) is not None)
            zeros += found.is_zero()
        self.assertGreater(zeros, 20)

    def test_the_same_the_other_way_round(self):
        random = seeded(88)
        for n, k in product(range(1, 9), repeat=2):
            a, b = random_metric(random, n), random_metric(random, k)
            if n * k > 12:
                self.assertEqual(raised(hausdorff, a, b), (Refused, "large"))
            else:
                self.assertEqual(shown(hausdorff(a, b)), shown(hausdorff(b, a)))

    def test_a_pair_for_each_point_of_both_is_needed(self):
        # Maps of the points of one side alone would do with less.
        a, b = path([1]), path([1, 5])
        self.assertEqual(fraction(hausdorff(a, b)), Fraction(5, 2))
        self.assertEqual(fraction(hausdorff(b, a)), Fraction(5, 2))

    def test_metrics_stay_the_same(self):
        a, b = read_metric("3: 0 1 2; 1 0 1; 2 1 0"), read_metric("3: 0 2 2; 2 0 4; 2 4 0")
        before = shown([a.rows, b.rows])
        for call in (isometries, find_isometry, similarity, hausdorff, lambda m, _: group(m)):
            self.assertEqual(shown(call(a, b)), shown(call(a, b)))
            self.assertEqual(shown([a.rows, b.rows]), before)
        self.assertEqual(shown(similarity(a, b)), shown((q(2), (1, 0, 2))))


if __name__ == "__main__":
    unittest.main()
