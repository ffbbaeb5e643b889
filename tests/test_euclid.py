import unittest
from fractions import Fraction
from itertools import combinations, permutations, product

from metricparts.build import added, complete, cut_sum, cycle, from_graph, path, restricted, scaled, splits, star
from metricparts.errors import Refused
from metricparts.euclid import (
    cayley_menger, coordinates, dimension, gram, is_euclidean, is_negative_type, negative_vector, positive_weights,
    sphere, squares_of, type_gram,
)
from metricparts.linear import rank
from metricparts.metric import Metric, read_metric
from metricparts.ratio import Ratio
from tests.helper import (
    MALFORMED, OTHERS, fraction, fractions_of, metrics, q, raised, random_metric, row, rows, seeded, shown, table,
)

ONE = Metric([[0]])
REFUSED = (Refused, "euclid")
# A rectangle, its corners in turn; a triangle with a right angle; two points and the one in the middle.
RECTANGLE = read_metric("4: 0 3 5 4; 3 0 4 5; 5 4 0 3; 4 5 3 0")
RIGHT = read_metric("3: 0 3/2 2; 3/2 0 5/2; 2 5/2 0")
# Two and three points, joined across.
ACROSS = read_metric("5: 0 2 1 1 1; 2 0 1 1 1; 1 1 0 2 2; 1 1 2 0 2; 1 1 2 2 0")


def gram_of(d):
    """Return the Gram matrix of a table, by its definition."""
    some = range(1, len(d))
    return [[(d[0][i] ** 2 + d[0][j] ** 2 - d[i][j] ** 2) / 2 for j in some] for i in some]


def determinant_of(matrix):
    """Return the determinant of a matrix of Fractions."""
    left = [list(one) for one in matrix]
    found = Fraction(1)
    while left:
        at = next((at for at, one in enumerate(left) if one[0]), None)
        if at is None:
            return Fraction(0)
        lead = left.pop(at)
        found *= (-1) ** at * lead[0]
        left = [[item - one[0] / lead[0] * other for item, other in zip(one[1:], lead[1:])] for one in left]
    return found


def is_from_zero_on(matrix):
    """Tell if a symmetric matrix has no value below 0: if no determinant of some rows and the same columns is."""
    size = len(matrix)
    return all(determinant_of([[matrix[j][k] for k in some] for j in some]) >= 0
               for many in range(1, size + 1) for some in combinations(range(size), many))


def value_of(matrix, x):
    """Return the value of a matrix at a list of numbers."""
    return sum((x[j] * matrix[j][k] * x[k] for j in range(len(x)) for k in range(len(x))), Fraction(0))


def elimination(matrix):
    """Return the basis and the squares as point 7.2 tells them, and what is left."""
    left = [list(one) for one in matrix]
    size = range(len(left))
    parts = []
    while any(left[i][i] > 0 for i in size) and not any(left[i][i] < 0 for i in size):
        i = min(i for i in size if left[i][i] > 0)
        c = left[i][i]
        lead = [item / c for item in left[i]]
        left = [[left[j][k] - c * lead[j] * lead[k] for k in size] for j in size]
        parts.append((lead, c))
    return tuple(tuple(lead[j] for lead, _ in parts) for j in size), tuple(c for _, c in parts), left


def symmetric(seed, many=40, most=5):
    """Give symmetric matrices of Fractions: told ones, sums of squares, sums less a square, and any."""
    yield []
    for told in (["0"], ["2"], ["-1"], ["0 0", "0 0"], ["0 1", "1 0"], ["0 -2", "-2 0"], ["1 1", "1 1"], ["1 2", "2 1"],
                 ["1 0", "0 -1"], ["1 1 0", "1 1 1", "0 1 0"], ["0 0 0", "0 0 1/2", "0 1/2 0"], ["0 1", "1 5"],
                 ["1 0 0 0", "0 0 0 0", "0 0 0 -3", "0 0 -3 0"], ["0 0 0", "0 3 0", "0 0 0"],
                 ["2 1 1", "1 0 1", "1 1 -1"]):
        yield [fractions_of(row(text)) for text in told]
    random = seeded(seed)
    for at in range(many):
        size = random.randint(1, most)
        kind = at % 4
        vectors = [[Fraction(random.randint(-3, 3), random.choice((1, 2))) for _ in range(size)] for _ in range(size)]
        signs = [random.choice((0, 1, 1)) for _ in range(size)]
        if kind == 1:
            signs[random.randrange(size)] = -1
        if kind == 2:
            # Numbers are taken off a diagonal of zeros alone, so that it stays so.
            vectors = [[Fraction(0)] * size for _ in range(size)]
        found = [[sum((s * v[j] * v[k] for s, v in zip(signs, vectors)), Fraction(0)) for k in range(size)]
                 for j in range(size)]
        if kind > 1:
            for j, k in product(range(size), repeat=2):
                if j < k or (j == k and kind == 3):
                    found[j][k] = found[k][j] = Fraction(random.choice((0, 0, 1, -1, 2)))
        yield found


def given(matrix):
    """Return a matrix of Fractions as a tuple of rows of Ratio objects."""
    return tuple(tuple(q(item) for item in one) for one in matrix)


def spaces(seed, many=4):
    """Give metrics of 1 to 8 points of Euclidean spaces: on a line, of right angles, with nearly equal distances."""
    yield from (ONE, RECTANGLE, RIGHT, scaled(RECTANGLE, Ratio(2, 7)), restricted(RECTANGLE, [2, 0, 3]))
    random = seeded(seed)
    for n in range(2, 9):
        yield complete(n, Ratio(n, 3))
        for _ in range(many):
            line = path([random.choice((1, 2, Ratio(1, 2), Ratio(5, 3))) for _ in range(n - 1)])
            yield restricted(line, random.sample(range(n), n))
            items = [[Ratio(random.randint(70, 75), 70) for _ in range(n)] for _ in range(n)]
            yield Metric([[0 if x == y else items[min(x, y)][max(x, y)] for y in range(n)] for x in range(n)])


def sums_of_cuts(seed, many=4):
    """Give cut sums of 1 to 8 points."""
    random = seeded(seed)
    for n in range(1, 9):
        for _ in range(many):
            weights = [random.choice((0, 0, 0, 1, Ratio(1, 2), 3)) for _ in splits(n)]
            if raised(cut_sum, n, weights) is None:
                yield cut_sum(n, weights)


class Matrices(unittest.TestCase):
    def test_told_examples(self):
        self.assertEqual(gram(ONE), ())
        self.assertEqual(type_gram(ONE), ())
        self.assertEqual(shown(gram(path([Ratio(3, 2)]))), shown(rows("9/4")))
        self.assertEqual(shown(type_gram(path([Ratio(3, 2)]))), shown(rows("3/2")))
        self.assertEqual(shown(gram(path([1, 2]))), shown(rows("1 3", "3 9")))
        self.assertEqual(shown(type_gram(path([1, 2]))), shown(rows("1 1", "1 3")))
        self.assertEqual(shown(gram(cycle([1, 1, 1, 1]))), shown(rows("1 2 -1", "2 4 2", "-1 2 1")))
        self.assertEqual(shown(gram(complete(4, 1))), shown(rows("1 1/2 1/2", "1/2 1 1/2", "1/2 1/2 1")))

    def test_against_the_definition(self):
        for m in metrics(201, 4):
            d = table(m)
            self.assertEqual(shown(gram(m)), shown(given(gram_of(d))))
            some = range(1, m.n)
            due = [[(d[0][i] + d[0][j] - d[i][j]) / 2 for j in some] for i in some]
            self.assertEqual(shown(type_gram(m)), shown(given(due)))


class Squares(unittest.TestCase):
    def test_told_examples(self):
        self.assertEqual(squares_of(()), ((), ()))
        self.assertEqual(squares_of([]), ((), ()))
        self.assertIsNone(negative_vector(()))
        self.assertIsNone(negative_vector([]))
        self.assertEqual(shown(squares_of(rows("0"))), shown((((),), ())))
        self.assertEqual(shown(squares_of(rows("0 0 0", "0 0 0", "0 0 0"))), shown((((),) * 3, ())))
        self.assertIsNone(negative_vector(rows("0 0 0", "0 0 0", "0 0 0")))
        self.assertEqual(shown(squares_of(rows("4 2", "2 1"))), shown((rows("1", "1/2"), row("4"))))
        self.assertEqual(shown(squares_of(rows("0 0", "0 5"))), shown((rows("0", "1"), row("5"))))
        self.assertEqual(shown(squares_of(rows("1 1", "1 3"))), shown((rows("1 0", "1 1"), row("1 2"))))

    def test_values_below_zero(self):
        # On the diagonal; 0 there and another item beside it; only after the first step.
        for matrix in (rows("-1"), rows("1 0", "0 -1"), rows("5 0 0", "0 0 0", "0 0 -1/9"), rows("0 1", "1 0"),
                       rows("0 -1", "-1 0"), rows("0 1", "1 5"), rows("1 1 0", "1 1 1", "0 1 1"), rows("1 2", "2 1"),
                       rows("1 1 1", "1 1 2", "1 2 1")):
            for some in (matrix, list(matrix)):
                self.assertIsNone(squares_of(some))
                found = negative_vector(some)
                self.assertEqual((type(found), len(found)), (tuple, len(matrix)))
                self.assertTrue(all(isinstance(item, Ratio) for item in found))
                self.assertLess(value_of([fractions_of(one) for one in matrix], fractions_of(found)), 0)

    def test_against_the_definition(self):
        kinds = []
        for matrix in symmetric(202, 160):
            some = given(matrix)
            good = is_from_zero_on(matrix)
            kinds.append(good)
            basis, squares, left = elimination(matrix)
            found = squares_of(some)
            if good:
                self.assertFalse(any(item for one in left for item in one))
                self.assertEqual(shown(found), shown((given(basis), tuple(q(item) for item in squares))))
                self.assertIsNone(negative_vector(some))
                self.check_squares(matrix, found)
            else:
                self.assertIsNone(found)
                vector = negative_vector(some)
                self.assertEqual((type(vector), len(vector)), (tuple, len(matrix)))
                self.assertTrue(all(isinstance(item, Ratio) for item in vector))
                self.assertLess(value_of(matrix, fractions_of(vector)), 0)
            self.assertEqual(shown(squares_of(list(some))), shown(found))
        self.assertGreater(min(kinds.count(True), kinds.count(False)), 40)

    def check_squares(self, matrix, found):
        basis, squares = found
        self.assertTrue(all(square.n > 0 for square in squares))
        self.assertEqual(len(squares), rank(given(matrix), len(matrix)))
        sums = [[sum((fraction(c) * fraction(a) * fraction(b) for c, a, b in zip(squares, v, w)), Fraction(0))
                 for w in basis] for v in basis]
        self.assertEqual(sums, matrix)

    def test_arguments_stay_the_same(self):
        for matrix in symmetric(203, 30):
            some = [tuple(one) for one in given(matrix)]
            before = shown(some)
            for call in (squares_of, negative_vector):
                self.assertEqual(shown(call(some)), shown(call(tuple(some))))
                self.assertEqual(shown(some), before)


class Spaces(unittest.TestCase):
    def check(self, m):
        """Hold what is told of a metric against its Gram matrix, and tell if it is of a Euclidean space."""
        good = is_from_zero_on(gram_of(table(m)))
        self.assertIs(is_euclidean(m), good)
        if not good:
            for call in (dimension, coordinates, sphere):
                self.assertEqual(raised(call, m), REFUSED)
            return False
        self.assertEqual(shown(dimension(m)), shown(rank(gram(m), m.n - 1)))
        found = coordinates(m)
        self.assertEqual((type(found), len(found)), (tuple, 2))
        basis, squares = found
        self.assertEqual((type(basis), type(squares)), (tuple, tuple))
        self.assertEqual((len(basis), len(squares)), (m.n, dimension(m)))
        self.assertTrue(all(type(one) is tuple and len(one) == len(squares) for one in basis))
        self.assertTrue(all(isinstance(item, Ratio) for one in (*basis, squares) for item in one))
        self.assertEqual(shown(basis[0]), shown((q(0),) * len(squares)))
        self.assertTrue(all(square.n > 0 for square in squares))
        away = [[sum((fraction(c) * (fraction(a) - fraction(b)) ** 2 for c, a, b in zip(squares, v, w)), Fraction(0))
                 for w in basis] for v in basis]
        self.assertEqual(away, [[item ** 2 for item in one] for one in table(m)])
        self.assertEqual(shown(found), shown(((basis[0],) + squares_of(gram(m))[0], squares)))
        self.check_sphere(m)
        return True

    def check_sphere(self, m):
        """Hold the sphere against the equations of its centre, in the coordinates of the points."""
        basis, squares = coordinates(m)
        found = sphere(m)
        points = [fractions_of(one) for one in basis]
        weights = fractions_of(squares)
        # The centre c has, for each point p, the same distance to it as to 0: twice the product of p and c is p p.
        left = [tuple(q(2 * weight * item) for weight, item in zip(weights, point)) for point in points]
        right = tuple(q(sum((weight * item ** 2 for weight, item in zip(weights, point)),
                            Fraction(0))) for point in points)
        joined = [one + (number,) for one, number in zip(left, right)]
        if rank(joined, len(squares) + 1) > rank(left, len(squares)):
            self.assertIsNone(found)
            return
        self.assertIsInstance(found, Ratio)
        # The points span the space, so there is one centre alone: it is told by as many independent equations.
        centre = self.centre([fractions_of(one) for one in left], fractions_of(right), len(squares))
        for point in points:
            self.assertEqual(sum((weight * (a - b) ** 2 for weight, a, b in zip(weights, point, centre)), Fraction(0)),
                             fraction(found))

    def centre(self, left, right, size):
        """Return the solution of equations of which as many as there are unknowns are independent (Cramer)."""
        for some in combinations(range(len(left)), size):
            matrix = [left[at] for at in some]
            whole = determinant_of(matrix)
            if whole != 0:
                turned = [[[right[at] if k == place else left[at][k] for k in range(size)] for at in some]
                          for place in range(size)]
                return [determinant_of(one) / whole for one in turned]
        self.fail("the points do not span the space")

    def test_told_examples(self):
        self.assertIs(is_euclidean(ONE), True)
        self.assertEqual(dimension(ONE), 0)
        self.assertEqual(coordinates(ONE), (((),), ()))
        self.assertEqual(shown(sphere(ONE)), shown(q(0)))
        self.assertEqual(dimension(path([1, 2])), 1)
        self.assertIs(is_euclidean(cycle([1, 1, 1, 1])), False)
        self.assertEqual(shown(sphere(path([3]))), shown(q("9/4")))
        self.assertIsNone(sphere(path([1, 2])))
        self.assertIsNone(sphere(path([1, 1, 1, 1, 1])))
        self.assertEqual(shown(sphere(RIGHT)), shown(q("25/16")))
        self.assertEqual(shown(sphere(RECTANGLE)), shown(q("25/4")))
        self.assertEqual((dimension(RIGHT), dimension(RECTANGLE)), (2, 2))
        self.assertEqual(shown(sphere(complete(3, 1))), shown(q("1/3")))
        self.assertEqual(shown(sphere(complete(4, 1))), shown(q("3/8")))
        self.assertEqual(dimension(complete(8, 5)), 7)
        self.assertEqual(shown(coordinates(path([1, 2]))), shown((rows("0", "1", "3"), row("1"))))

    def test_spaces(self):
        spheres = []
        for m in spaces(204):
            self.assertIs(self.check(m), True)
            spheres.append(sphere(m) is None)
        self.assertGreater(min(spheres.count(True), spheres.count(False)), 10)

    def test_others(self):
        kinds = [self.check(m) for m in [*metrics(205, 5, 6), *metrics(206, 1), star([1, 1, 1, 2]), cycle([1] * 8),
                                         ACROSS]]
        self.assertGreater(min(kinds.count(True), kinds.count(False)), 10)

    def test_metrics_stay_the_same(self):
        for m in (RECTANGLE, complete(5, 2)):
            before = shown(m.rows)
            for call in (gram, type_gram, dimension, coordinates, sphere, is_euclidean, is_negative_type):
                self.assertEqual(shown(call(m)), shown(call(Metric(m.rows))))
                self.assertEqual(shown(m.rows), before)


class NegativeType(unittest.TestCase):
    def check(self, m):
        """Hold the type against the definition, and tell if the metric is of negative type."""
        d = table(m)
        good = is_from_zero_on([[(d[0][i] + d[0][j] - d[i][j]) / 2 for j in range(1, m.n)] for i in range(1, m.n)])
        self.assertIs(is_negative_type(m), good)
        found = positive_weights(m)
        if good:
            self.assertIsNone(found)
            return True
        self.assertEqual((type(found), len(found)), (tuple, m.n))
        self.assertTrue(all(isinstance(item, Ratio) for item in found))
        b = fractions_of(found)
        self.assertEqual(sum(b), 0)
        self.assertGreater(sum(b[i] * b[j] * d[i][j] for i, j in combinations(range(m.n), 2)), 0)
        return False

    def test_told_examples(self):
        self.assertIs(self.check(ONE), True)
        self.assertIs(self.check(path([1, 2, 3])), True)
        self.assertIs(self.check(cycle([1, 1, 1, 1])), True)
        self.assertIs(self.check(ACROSS), False)
        # The corners of a graph that is joined across, of three and four points.
        edges = [(x, y, 1) for x in range(3) for y in range(3, 7)]
        self.assertIs(self.check(from_graph(7, edges)), False)

    def test_cut_sums(self):
        for m in sums_of_cuts(207):
            self.assertIs(self.check(m), True)

    def test_others(self):
        random = seeded(208)
        kinds = [self.check(m) for m in metrics(209, 4)]
        for _ in range(20):
            m = added(scaled(restricted(ACROSS, random.sample(range(5), 5)), random.choice((1, 3, 9))),
                      random_metric(random, 5))
            kinds.append(self.check(m))
        self.assertGreater(min(kinds.count(True), kinds.count(False)), 8)


class CayleyMenger(unittest.TestCase):
    def due(self, m, points):
        """Return the determinant, by its definition."""
        d = table(m)
        whole = [[Fraction(0)] + [Fraction(1)] * len(points)]
        whole += [[Fraction(1)] + [d[x][y] ** 2 for y in points] for x in points]
        return determinant_of(whole)

    def test_told_examples(self):
        self.assertEqual(shown(cayley_menger(ONE, [0])), shown(q(-1)))
        self.assertEqual(shown(cayley_menger(path([3]), [0, 1])), shown(q(18)))
        self.assertEqual(shown(cayley_menger(path([1, 2]), (0, 1, 2))), shown(q(0)))
        # Sixteen times the square of the area, and 288 times that of the volume.
        self.assertEqual(shown(cayley_menger(RIGHT, (0, 1, 2))), shown(q(-36)))
        self.assertEqual(shown(cayley_menger(complete(4, 1), [3, 1, 0, 2])), shown(q(4)))

    def test_against_the_definition(self):
        random = seeded(210)
        for m in metrics(211, 3):
            for size in range(1, min(m.n, 5) + 1):
                points = random.sample(range(m.n), size)
                found = cayley_menger(m, points)
                self.assertEqual(shown(found), shown(q(self.due(m, points))))
                self.assertEqual(shown(cayley_menger(m, tuple(points))), shown(found))
                self.assertEqual(shown(cayley_menger(m, points[::-1])), shown(found))
                d = table(m)
                first, *others = points
                inner = [[(d[first][r] ** 2 + d[first][s] ** 2 - d[r][s] ** 2) / 2 for s in others] for r in others]
                k = len(others)
                self.assertEqual(fraction(found), (-1) ** (k + 1) * 2 ** k * determinant_of(inner))

    def test_all_points(self):
        for m in (cycle([1] * 8), path([1] * 7), complete(8, 1), star([1, 2, 3, 4, 5, 6, 7, 8])):
            self.assertEqual(fraction(cayley_menger(m, list(range(8)))), self.due(m, range(8)))
        self.assertEqual(shown(cayley_menger(complete(8, 1), tuple(range(8)))), shown(q(8)))

    def test_equal_points(self):
        for points in ([0, 0], (1, 1, 1), [0, 1, 0], (2, 1, 0, 2), [3] * 12, list(range(4)) * 3):
            self.assertEqual(shown(cayley_menger(cycle([1, 1, 1, 1]), points)), shown(q(0)))
        self.assertEqual(shown(cayley_menger(ONE, (0, 0))), shown(q(0)))

    def test_other_values(self):
        m = path([1, 2])
        told = [value for value in OTHERS if value not in ([1], (1,), (1, 2))]
        for value in told + [0, 1, 3, Ratio(1), m, "012", (), []]:
            self.assertEqual(raised(cayley_menger, m, value), MALFORMED, value)
        for bad in OTHERS + [-1, 3, 10 ** 30, Ratio(0), Ratio(1)]:
            for value in ([bad], (bad,), [0, bad], (bad, 0, 1), [0, 1, 2, bad]):
                self.assertEqual(raised(cayley_menger, m, value), MALFORMED, value)

    def test_the_list_stays_the_same(self):
        points = [2, 0, 1]
        cayley_menger(path([1, 2]), points)
        self.assertEqual(points, [2, 0, 1])


class Sphere(unittest.TestCase):
    def test_the_order_of_the_points_does_not_matter(self):
        for order in permutations(range(4)):
            self.assertEqual(shown(sphere(restricted(RECTANGLE, order))), shown(q("25/4")))
        for order in permutations(range(3)):
            self.assertIsNone(sphere(restricted(path([1, 2]), order)))

    def test_equations_of_the_point(self):
        solved = 0
        for m in spaces(212):
            found = sphere(m)
            if found is None:
                continue
            matrix = gram_of(table(m))
            # No two points of a sphere are farther apart than twice the radius.
            self.assertLessEqual(max([item ** 2 for one in table(m) for item in one]), 4 * fraction(found))
            size = m.n - 1
            if dimension(m) == size and size > 0:
                whole = determinant_of(matrix)
                y = [determinant_of([[matrix[i][i] / 2 if k == place else matrix[i][k] for k in range(size)]
                                     for i in range(size)]) / whole for place in range(size)]
                self.assertEqual(value_of(matrix, y), fraction(found))
                solved += 1
        self.assertGreater(solved, 10)


if __name__ == "__main__":
    unittest.main()
