import faulthandler
import unittest
from fractions import Fraction
from itertools import combinations

from metricparts.ratio import Ratio
from metricparts.simplex import feasible
from tests.helper import fraction, fractions_of, product, q, random_number, random_rows, row, rows, seeded, shown

BIG = 7 ** 300


def solved(columns, right):
    """Return the numbers whose multiples of independent columns have the sum right, or None."""
    table = [[fraction(column[place]) for column in columns] + [fraction(right[place])] for place in range(len(right))]
    width = len(columns)
    done = 0
    for at in range(width):
        lead = next((k for k in range(done, len(table)) if table[k][at] != 0), None)
        if lead is None:
            return None
        table[done], table[lead] = table[lead], table[done]
        table[done] = [item / table[done][at] for item in table[done]]
        for k in range(len(table)):
            if k != done:
                table[k] = [item - table[k][at] * other for item, other in zip(table[k], table[done])]
        done += 1
    if any(line[width] != 0 for line in table[width:]):
        return None
    return [line[width] for line in table[:width]]


def has_weights(columns, right):
    """Tell by trying all independent columns if there are weights: if so, independent columns suffice."""
    for size in range(min(len(columns), len(right)) + 1):
        for some in combinations(columns, size):
            found = solved(some, right)
            if found is not None and all(number >= 0 for number in found):
                return True
    return False


class Feasible(unittest.TestCase):
    def setUp(self):
        # A method that runs in a circle would never fail: after two minutes the tests are ended with an error.
        faulthandler.dump_traceback_later(120, exit=True)
        self.addCleanup(faulthandler.cancel_dump_traceback_later)

    def check(self, columns, right):
        """Hold the answer against the definition in point 1.3 and return its kind."""
        answer = feasible(columns, right)
        self.assertEqual((type(answer), len(answer)), (tuple, 2))
        kind, numbers = answer
        self.assertIsInstance(numbers, tuple)
        self.assertTrue(all(isinstance(number, Ratio) for number in numbers))
        if kind == "weights":
            self.assertEqual(len(numbers), len(columns))
            self.assertTrue(all(number.n >= 0 for number in numbers))
            for place in range(len(right)):
                items = [column[place] for column in columns]
                self.assertEqual(product(numbers, items), fraction(right[place]))
        else:
            self.assertEqual(kind, "functional")
            self.assertEqual(len(numbers), len(right))
            self.assertGreater(product(numbers, right), 0)
            for column in columns:
                self.assertLessEqual(product(numbers, column), 0)
        return kind

    def told(self, columns, right, kind):
        self.assertEqual(self.check(columns, right), kind)
        self.assertEqual(self.check(list(columns), right), kind)

    def tried(self, columns, right):
        """Hold the kind of the answer against what trying all independent columns gives, and return it."""
        kind = self.check(columns, right)
        self.assertEqual(kind == "weights", has_weights(columns, right))
        return kind

    def test_example(self):
        columns = [(Ratio(1), Ratio(1)), (Ratio(0), Ratio(1))]
        self.assertEqual(feasible(columns, (Ratio(2), Ratio(1)))[0], "functional")
        self.told(columns, (Ratio(2), Ratio(1)), "functional")
        self.told(columns, (Ratio(1), Ratio(2)), "weights")

    def test_no_column(self):
        self.told((), row("0 0"), "weights")
        self.told((), row("0 1"), "functional")
        self.told((), row("0 -1/2"), "functional")
        self.told((), row("1 -1"), "functional")
        self.assertEqual(feasible((), row("0 0 0")), ("weights", ()))

    def test_length_zero(self):
        self.told((), (), "weights")
        self.told(((), (), ()), (), "weights")
        self.assertEqual(feasible((), ()), ("weights", ()))
        self.assertEqual(len(feasible(((), ()), ())[1]), 2)

    def test_columns_of_zeros(self):
        self.told(rows("0 0", "0 0"), row("0 0"), "weights")
        self.told(rows("0 0", "0 0"), row("0 3"), "functional")
        self.told(rows("0 0", "1 2", "0 0"), row("1/2 1"), "weights")
        self.told(rows("0 0", "1 2", "0 0"), row("-1/2 -1"), "functional")

    def test_several_equal_columns(self):
        self.told(rows("1 1", "1 1", "1 1"), row("5/3 5/3"), "weights")
        self.told(rows("1 1", "1 1", "1 1"), row("1 2"), "functional")
        self.told(rows("1 0", "1 0", "0 1", "0 1"), row("7 1/9"), "weights")

    def test_right_side_of_zeros(self):
        self.told(rows("1 0", "0 1"), row("0 0"), "weights")
        self.told(rows("1 -1", "-1 1"), row("0 0"), "weights")
        self.told(rows("1/2 3", "-5 1", "0 0"), row("0 0"), "weights")

    def test_negative_items_on_the_right_side(self):
        self.told(rows("-1 0", "0 -1"), row("-2 -3"), "weights")
        self.told(rows("-1 0", "0 -1"), row("-2 3"), "functional")
        self.told(rows("1 -1", "1 1"), row("0 -1"), "functional")
        self.told(rows("1 -1", "-1 -1"), row("0 -1"), "weights")
        self.told(rows("1 0", "0 1"), row("-1 -1"), "functional")

    def test_one_place(self):
        self.told(rows("3"), row("2"), "weights")
        self.told(rows("3"), row("-2"), "functional")
        self.told(rows("-3"), row("-2"), "weights")
        self.told(rows("-1/3", "1/5"), row("-2/7"), "weights")
        self.told(rows("-1/3", "1/5"), row("2/7"), "weights")

    def test_weights_must_not_be_negative(self):
        self.told(rows("1 0", "1 1"), row("0 1"), "functional")
        self.told(rows("1 0", "1 1"), row("1 1"), "weights")

    def test_degenerate_columns(self):
        unit = ("1 0 0", "0 1 0", "0 0 1")
        self.told(rows("1 1 1", *unit), row("2 2 2"), "weights")
        self.told(rows("1 1 0", "0 1 1", "1 0 1"), row("1 1 1"), "weights")
        self.told(rows("1 1 1", "1 1 2", "1 2 1", "2 1 1"), row("1 1 1"), "weights")
        self.told(rows("1 1 2", "1 2 1"), row("1 1 1"), "functional")

    def test_columns_on_which_other_rules_run_in_a_circle(self):
        # The constraints of the example of Beale, with its target as a further place.
        slack = ("1 0 0 0", "0 1 0 0", "0 0 1 0")
        columns = rows("1/4 1/2 0 -3/4", "-60 -90 0 150", "-1/25 -1/50 1 -1/50", "9 3 0 6", *slack)
        self.told(columns, row("0 0 1 -1/20"), "weights")
        self.told(columns, row("0 0 1 -1/2"), "functional")
        self.told(columns, row("0 0 0 0"), "weights")
        # The example of Kuhn, likewise.
        columns = rows("-2 1/3 2 -2", "-9 1 3 -3", "1 -1/3 -1 1", "9 -2 -12 12", *slack)
        self.told(columns, row("0 0 2 -2"), "weights")
        self.told(columns, row("0 0 2 -3"), "functional")

    def test_columns_on_which_the_rule_with_other_choices_runs_in_a_circle(self):
        # In turn: of equal quotients the last column, the first row and the last row leave; the last column enters;
        # the column with the least price enters and the first row leaves. Each of these comes back to a basis.
        last = row("0 0 1")
        self.tried(rows("1 4 -4", "-5 -3 0", "4 -2 -5", "-3 -2 3", "0 2 0", "5 2 1"), last)
        columns = rows("1 2 0", "-2 0 -2", "1 -1 -2", "2 1 2", "-2 1 2", "0 -2 0", "1 2 -1")
        self.tried(columns, last)
        columns = rows("-3 -4 -3", "1 0 -3", "-1 -4 0", "-5 4 -3", "-5 3 3", "4 3 1")
        self.tried(columns, last)
        columns = rows("-4 0 5", "4 3 4", "-3 -1 -3", "2 -5 -4", "1 -2 -4", "2 3 0")
        self.tried(columns, last)
        columns = rows("0 1 0 -2 3", "1 3 -3 -2 -1", "-1 -5 2 0 -1", "0 -4 4 4 4", "2 -2 4 5 2", "-2 1 5 3 1")
        self.tried(columns, row("0 0 0 0 1"))

    def test_all_small_degenerate_columns(self):
        items = (q(-1), q(0), q(1))
        columns = [(a, b) for a in items for b in items]
        kinds = []
        for some in combinations(columns, 3):
            for right in columns:
                kinds.append(self.tried(some, right))
        self.assertEqual(set(kinds), {"weights", "functional"})

    def test_many(self):
        random = seeded(31)
        kinds = []
        for _ in range(250):
            size, count = random.randrange(5), random.randrange(7)
            columns = random_rows(random, count, size)
            right = tuple(random_number(random) for _ in range(size))
            kinds.append(self.tried(columns, right))
        self.assertGreater(min(kinds.count("weights"), kinds.count("functional")), 20)

    def test_sums_of_multiples(self):
        random = seeded(32)
        for _ in range(150):
            size, count = random.randrange(7), random.randrange(10)
            columns = random_rows(random, count, size)
            weights = [random_number(random).absolute() for _ in columns]
            right = tuple(q(product(weights, [column[place] for column in columns])) for place in range(size))
            self.assertEqual(self.check(columns, right), "weights")

    def test_many_degenerate(self):
        random = seeded(33)
        for _ in range(80):
            size, count = random.randrange(3, 8), random.randrange(5, 20)
            columns = [tuple(q(random.choice((0, 0, 1, 1, -1))) for _ in range(size)) for _ in range(count)]
            right = tuple(q(random.choice((0, 0, 0, 1, 1))) for _ in range(size))
            self.check(columns, right)

    def test_cuts_of_eight_points(self):
        pairs = list(combinations(range(8), 2))
        columns = [tuple(q((mask >> x ^ mask >> y) & 1) for x, y in pairs) for mask in range(2, 256, 2)]
        random = seeded(34)
        for _ in range(5):
            right = tuple(Ratio(random.randint(60, 120), random.randint(58, 61)) for _ in pairs)
            self.check(columns, right)
        weights = [Ratio(random.randrange(4), random.randint(1, 9)) for _ in columns]
        right = tuple(q(product(weights, [column[place] for column in columns])) for place in range(len(pairs)))
        self.assertEqual(self.check(columns, right), "weights")
        # Of six points of one part and the two of the other one, joined crosswise, no cut sum is made.
        right = tuple(q(1 if (x < 2) != (y < 2) else 2) for x, y in pairs)
        self.assertEqual(self.check(columns, right), "functional")

    def test_many_digits(self):
        columns = ((Ratio(BIG, 3), Ratio(1, BIG)), (Ratio(-1, BIG + 1), Ratio(BIG)))
        self.told(columns, tuple(a + b for a, b in zip(*columns)), "weights")
        self.told(columns, tuple(-a - b for a, b in zip(*columns)), "functional")
        # The weights of the next two columns are far from each other.
        columns = ((Ratio(1), Ratio(0)), (Ratio(1, BIG), Ratio(1, BIG + 2)))
        self.assertEqual(fractions_of(feasible(columns, (Ratio(BIG), Ratio(1)))[1])[1], Fraction(BIG + 2))

    def test_arguments_stay_the_same_and_results_are_equal(self):
        for texts, text in ((("1 2", "3 -4"), "5 -6"), (("1 2", "3 4"), "-5 6"), ((), "1 2")):
            columns, right = list(rows(*texts)), row(text)
            before = (shown(columns), shown(right))
            answer = shown(feasible(columns, right))
            self.assertEqual((shown(columns), shown(right)), before)
            self.assertEqual(shown(feasible(columns, right)), answer)
            self.assertEqual(shown(feasible(tuple(columns), right)), answer)


if __name__ == "__main__":
    unittest.main()
