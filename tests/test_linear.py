import unittest
from fractions import Fraction
from itertools import combinations, permutations

from metricparts.linear import combine, determinant, dot, kernel, rank, reduced, solve
from metricparts.ratio import Ratio
from tests.helper import fraction, fractions_of, product, q, random_number, random_rows, row, rows, seeded, shown

BIG = 7 ** 300


def examples():
    """Give pairs of a tuple of rows and a width: edges first, then many small ones."""
    yield (), 0
    yield (), 3
    yield ((), (), ()), 0
    yield rows("0"), 1
    yield rows("0 0 0", "0 0 0"), 3
    yield rows("1 2 3", "2 4 6", "1 2 4"), 3
    yield rows("0 0 2", "0 3 0"), 3
    yield rows("1/2 1/3", "1/4 1/5", "1 1"), 2
    yield rows("0 1/2 -1/3 4", "0 1 -2/3 8", "0 0 0 5"), 4
    yield ((Ratio(BIG), Ratio(1, BIG)), (Ratio(1), Ratio(BIG, 3))), 2
    random = seeded(21)
    for _ in range(150):
        count, width = random.randrange(7), random.randrange(6)
        yield random_rows(random, count, width), width


def minor_rank(given, width):
    """Return the greatest size of a square part whose determinant is not 0."""
    for size in range(min(len(given), width), 0, -1):
        for some in combinations(given, size):
            for places in combinations(range(width), size):
                if leibniz([[one[place] for place in places] for one in some]) != 0:
                    return size
    return 0


def leibniz(given):
    """Return the determinant as the sum over all orders of the columns."""
    result = Fraction(0)
    for order in permutations(range(len(given))):
        turns = sum(1 for i, k in combinations(range(len(order)), 2) if order[i] > order[k])
        term = Fraction((-1) ** turns)
        for at, place in enumerate(order):
            term *= fraction(given[at][place])
        result += term
    return result


class Products(unittest.TestCase):
    def test_dot(self):
        for one, other in (("", ""), ("0", "5"), ("1 2 3", "4 5 6"), ("1/2 -1/3", "2/3 5"), ("1 -1", "1 1")):
            v, w = row(one), row(other)
            self.assertEqual(fraction(dot(v, w)), product(v, w))
            self.assertEqual(shown(dot(v, w)), shown(dot(w, v)))
        self.assertEqual(shown(dot((), ())), ("Ratio", 0, 1))
        self.assertEqual(shown(dot(row("1 2"), row("3 1/2"))), ("Ratio", 4, 1))

    def test_combine(self):
        found = combine(rows("1 0 2", "0 1/2 -1"), row("3 -2"), 3)
        self.assertEqual(shown(found), shown(row("3 -1 8")))
        found = combine(list(rows("1 0 2", "0 1/2 -1")), list(row("0 1")), 3)
        self.assertEqual(shown(found), shown(row("0 1/2 -1")))

    def test_combine_without_rows(self):
        for width in range(4):
            self.assertEqual(shown(combine((), (), width)), shown((Ratio(0),) * width))
            self.assertEqual(shown(combine([], [], width)), shown((Ratio(0),) * width))

    def test_combine_many(self):
        random = seeded(22)
        for given, width in examples():
            weights = [random_number(random) for _ in given]
            found = combine(given, weights, width)
            self.assertIsInstance(found, tuple)
            due = [product(weights, [one[at] for one in given]) for at in range(width)]
            self.assertEqual(fractions_of(found), due)


class Reduced(unittest.TestCase):
    def test_told_examples(self):
        for given, width, due, pivots in (
            ((), 0, (), ()),
            ((), 4, (), ()),
            (((), ()), 0, (), ()),
            (rows("0 0", "0 0"), 2, (), ()),
            (rows("2 4"), 2, rows("1 2"), (0,)),
            (rows("0 -3"), 2, rows("0 1"), (1,)),
            (rows("1 2 3", "2 4 6"), 3, rows("1 2 3"), (0,)),
            (rows("1 2 3", "2 4 7"), 3, rows("1 2 0", "0 0 1"), (0, 2)),
            (rows("0 1 1", "1 0 1", "1 1 2"), 3, rows("1 0 1", "0 1 1"), (0, 1)),
            (rows("0 0 5", "0 1/2 1", "3 1 1"), 3, rows("1 0 0", "0 1 0", "0 0 1"), (0, 1, 2)),
            (rows("0 0 0", "1/2 1/3 0", "0 0 0"), 3, rows("1 2/3 0"), (0,)),
        ):
            for kind in (tuple, list):
                self.assertEqual(shown(reduced(kind(given), width)), shown((due, pivots)))

    def test_properties(self):
        for given, width in examples():
            found, pivots = reduced(given, width)
            self.assertEqual((type(found), type(pivots), len(found)), (tuple, tuple, len(pivots)))
            self.assertEqual(list(pivots), sorted(set(pivots)))
            for at, (one, pivot) in enumerate(zip(found, pivots)):
                self.assertEqual((type(one), len(one)), (tuple, width))
                self.assertEqual([number.is_zero() for number in one[:pivot]], [True] * pivot)
                self.assertEqual([fraction(other[pivot]) for other in found], [int(k == at) for k in range(len(found))])

    def test_same_span(self):
        for given, width in examples():
            found, pivots = reduced(given, width)
            for one in given:
                # Of the pivots' places the weights of the reduced rows can be read off.
                weights = [one[pivot] for pivot in pivots]
                self.assertEqual(shown(combine(found, weights, width)), shown(one))
            self.assertEqual(len(found), minor_rank(given, width))

    def test_other_rows_with_the_same_span_have_the_same_reduced_rows(self):
        for given, width in examples():
            found = shown(reduced(given, width))
            self.assertEqual(shown(reduced(given[::-1], width)), found)
            self.assertEqual(shown(reduced(given + given, width)), found)
            self.assertEqual(shown(reduced(reduced(given, width)[0], width)), found)
            turned = tuple(tuple(number * q("-2/3") for number in one) for one in given)
            self.assertEqual(shown(reduced(turned, width)), found)

    def test_rank(self):
        for given, width in examples():
            self.assertEqual(shown(rank(given, width)), ("int", minor_rank(given, width)))
            self.assertEqual(rank(list(given), width), rank(given, width))
        self.assertEqual((rank((), 0), rank((), 5), rank([()], 0)), (0, 0, 0))


class Kernel(unittest.TestCase):
    def test_kernel(self):
        for given, width in examples():
            found = kernel(given, width)
            self.assertIsInstance(found, tuple)
            self.assertEqual(len(found), width - minor_rank(given, width))
            self.assertEqual(minor_rank(found, width), len(found))
            for one in found:
                self.assertEqual((type(one), len(one)), (tuple, width))
                for other in given:
                    self.assertEqual(product(one, other), 0)

    def test_edges(self):
        self.assertEqual(kernel((), 0), ())
        self.assertEqual(kernel(((),), 0), ())
        self.assertEqual(kernel(rows("1 0", "0 1"), 2), ())
        self.assertEqual(len(kernel([], 3)), 3)
        self.assertEqual(len(kernel(rows("0 0 0"), 3)), 3)


class Determinant(unittest.TestCase):
    def test_told_examples(self):
        for texts, due in (
            ((), 1), (("5",), 5), (("0",), 0), (("1 2", "3 4"), -2), (("0 1", "1 0"), -1),
            (("0 1 0", "0 0 1", "1 0 0"), 1),
            (("0 0 1", "0 1 0", "1 0 0"), -1), (("0 0 0 1", "1 0 0 0", "0 1 0 0", "0 0 1 0"), -1),
            (("1 2 3", "4 5 6", "7 8 9"), 0), (("1 2", "2 4"), 0), (("0 0", "1 1"), 0),
            (("1/2 1/3", "1/4 1/5"), Fraction(1, 60)),
            (("1 1", "1 1"), 0), (("2 0 0", "0 3 0", "0 0 -1/6"), -1),
        ):
            for kind in (tuple, list):
                self.assertEqual(shown(determinant(kind(rows(*texts)))), shown(q(due)))

    def test_all_orders(self):
        unit = rows("1 0 0 0", "0 1 0 0", "0 0 1 0", "0 0 0 1")
        for order in permutations(unit):
            self.assertEqual(fraction(determinant(order)), leibniz(order))

    def test_many(self):
        random = seeded(23)
        for _ in range(150):
            size = random.randrange(6)
            given = random_rows(random, size, size)
            self.assertEqual(fraction(determinant(given)), leibniz(given))

    def test_many_digits(self):
        given = ((Ratio(BIG), Ratio(BIG + 1)), (Ratio(BIG - 1), Ratio(BIG)))
        self.assertEqual(shown(determinant(given)), ("Ratio", 1, 1))


class Solve(unittest.TestCase):
    def test_exactly_one_solution(self):
        for kind in (tuple, list):
            self.assertEqual(shown(solve(kind(rows("1 1", "1 -1")), 2, kind(row("3 1")))), shown(row("2 1")))
            self.assertEqual(shown(solve(kind(rows("0 2", "1/2 0")), 2, kind(row("1 1")))), shown(row("2 1/2")))
            self.assertEqual(shown(solve(kind(rows("1 1", "1 -1", "2 0")), 2, kind(row("3 1 4")))), shown(row("2 1")))

    def test_several_solutions(self):
        self.assertEqual(shown(solve(rows("1 1 1"), 3, row("5"))), shown(row("5 0 0")))
        self.assertEqual(shown(solve(rows("0 2 1", "0 4 2"), 3, row("5 10"))), shown(row("0 5/2 0")))
        self.assertEqual(shown(solve(rows("0 0 0"), 3, row("0"))), shown(row("0 0 0")))

    def test_no_solution(self):
        self.assertIsNone(solve(rows("1 1", "2 2"), 2, row("1 3")))
        self.assertIsNone(solve(rows("0 0"), 2, row("1")))
        self.assertIsNone(solve([()], 0, [q(1)]))
        self.assertIsNone(solve(rows("1 0", "0 1", "1 1"), 2, row("1 1 1")))

    def test_without_rows(self):
        for width in range(4):
            self.assertEqual(shown(solve((), width, ())), shown((Ratio(0),) * width))
            self.assertEqual(shown(solve([], width, [])), shown((Ratio(0),) * width))

    def test_width_zero(self):
        self.assertEqual(solve(((), ()), 0, row("0 0")), ())

    def test_right_sides_with_a_solution(self):
        random = seeded(24)
        for given, width in examples():
            known = [random_number(random) for _ in range(width)]
            right = [q(product(one, known)) for one in given]
            found = solve(given, width, right)
            self.assertEqual((type(found), len(found)), (tuple, width))
            self.assertEqual([product(one, found) for one in given], fractions_of(right))
            pivots = reduced(given, width)[1]
            self.assertTrue(all(found[place].is_zero() for place in range(width) if place not in pivots))

    def test_any_right_sides(self):
        random = seeded(25)
        for given, width in examples():
            right = [random_number(random) for _ in given]
            longer = [tuple(one) + (number,) for one, number in zip(given, right)]
            found = solve(given, width, right)
            self.assertEqual(found is None, minor_rank(longer, width + 1) > minor_rank(given, width))
            if found is not None:
                self.assertEqual([product(one, found) for one in given], fractions_of(right))


class Arguments(unittest.TestCase):
    def test_arguments_stay_the_same_and_results_are_equal(self):
        for given, width in examples():
            have = list(given)
            weights = [Ratio(k + 1, 2) for k in range(len(have))]
            before = (shown(have), shown(weights))
            for call in (
                lambda: combine(have, weights, width), lambda: reduced(have, width), lambda: rank(have, width),
                lambda: kernel(have, width), lambda: solve(have, width, weights),
            ):
                self.assertEqual(shown(call()), shown(call()))
                self.assertEqual((shown(have), shown(weights)), before)
            if len(have) >= width:
                square = have[:width]
                self.assertEqual(shown(determinant(square)), shown(determinant(tuple(square))))
                self.assertEqual(shown(square), shown(list(given[:width])))


if __name__ == "__main__":
    unittest.main()
