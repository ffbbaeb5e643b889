import unittest
from fractions import Fraction
from itertools import permutations, product

from metricparts.errors import NoText, Refused
from metricparts.metric import Metric, is_pseudometric, read_metric
from metricparts.ratio import Ratio
from tests.helper import (
    MALFORMED, OTHERS, TOLD, is_metric, metrics, q, raised, random_metric, ratio_rows, seeded, shown, table,
)

LARGE = (Refused, "large")
NO_METRIC = (Refused, "metric")
NO_TEXT = (NoText, 0)

# Values that are no table of n rows of n numbers, n from 1 on.
FORMLESS = OTHERS[:-1] + [
    5, -1, 0, Ratio(1), [0], [[]], [[], []], [()], ((), ()), [[0, 1]], [[0], [1]], [[0, 1], [1]], [[0], [1, 0]],
    [[0, 1], [1, 0], [0, 0]], [[0, 1], [1, 0, 0]], [[0, 1, 1], [1, 0, 1]], [[True]], [[False]], [[None]], [["0"]],
    ["0"], ["01", "10"], [[0, True], [True, 0]], [[False, 1], [1, 0]], [[0, "1"], ["1", 0]], [[0, [1]], [[1], 0]],
    [[0, 1], "10"], [[0, 1], None], [None, [1, 0]], [[0, 1], 1], ["0", [0]], [[[0]]], [[0, 1], [1, (0,)]],
    [[0, 1], [1, Metric([[0]])]], Metric([[0, 2], [2, 0]]).rows[0], [Metric([[0]])], "0", "1: 0", ["1: 0"],
]


def ones(n):
    """Return the rows of n points with the distance 1."""
    return [[int(x != y) for y in range(n)] for x in range(n)]


def changed(rows, x, y, item):
    """Return rows with one other item."""
    return [[item if (i, k) == (x, y) else rows[i][k] for k in range(len(rows))] for i in range(len(rows))]


class Making(unittest.TestCase):
    def test_rows_of_every_kind(self):
        due = ((Ratio(0), Ratio(1), Ratio(2)), (Ratio(1), Ratio(0), Ratio(3, 2)), (Ratio(2), Ratio(3, 2), Ratio(0)))
        half = Ratio(3, 2)
        for rows in (
            [[0, 1, 2], [1, 0, half], [2, half, 0]], ((0, 1, 2), (1, 0, half), (2, half, 0)),
            [(0, 1, 2), [1, 0, half], (2, half, 0)], ([0, Ratio(1), 2], [1, Ratio(0), half], [Ratio(2), half, 0]), due,
        ):
            m = Metric(rows)
            self.assertEqual(shown(m.rows), shown(due))
            self.assertEqual(shown(m.n), ("int", 3))

    def test_fields_are_set_on_each_object(self):
        m = Metric([[0, 5], [5, 0]])
        self.assertEqual(vars(m), {"n": 2, "rows": ((Ratio(0), Ratio(5)), (Ratio(5), Ratio(0)))})

    def test_one_to_eight_points(self):
        for n in range(1, 9):
            m = Metric(ones(n))
            self.assertEqual((m.n, len(m.rows)), (n, n))
        self.assertEqual(raised(Metric, ones(9)), LARGE)
        self.assertEqual(raised(Metric, ones(30)), LARGE)

    def test_values_without_the_form(self):
        for value in FORMLESS:
            self.assertEqual(raised(Metric, value), MALFORMED, value)

    def test_broken_conditions(self):
        for rows in (
            [[1]], [[-1]], [[q("1/2")]],
            [[0, 1], [1, 1]], [[1, 1], [1, 0]], [[-1, 1], [1, 0]],
            [[0, 1], [2, 0]], [[0, 2], [1, 0]], [[0, q("1/2")], [q("1/3"), 0]],
            [[0, -1], [-1, 0]], [[0, -1], [1, 0]], [[0, q("-1/2")], [q("-1/2"), 0]],
            [[0, 0], [0, 0]], [[0, 0, 1], [0, 0, 1], [1, 1, 0]],
            [[0, 1, 3], [1, 0, 1], [3, 1, 0]], [[0, 1, 2], [1, 0, q("99/100")], [2, q("99/100"), 0]],
        ):
            self.assertEqual(raised(Metric, rows), NO_METRIC, rows)
            self.assertEqual(raised(Metric, tuple(tuple(row) for row in rows)), NO_METRIC, rows)

    def test_each_item_counts(self):
        for n in range(1, 9):
            for x, y in product(range(n), repeat=2):
                wrong = (1, -1) if x == y else (0, -1, 2, 3, q("-1/2"), q("3/2"))
                for item in wrong:
                    self.assertEqual(raised(Metric, changed(ones(n), x, y, item)), NO_METRIC)
        for x, y in permutations(range(8), 2):
            rows = changed(changed(ones(8), x, y, q("201/100")), y, x, q("201/100"))
            self.assertEqual(raised(Metric, rows), NO_METRIC)

    def test_the_order_of_the_errors(self):
        for bad in (True, None, "1", [1]):
            self.assertEqual(raised(Metric, changed(ones(9), 3, 4, bad)), MALFORMED)
            self.assertEqual(raised(Metric, changed(changed(ones(3), 0, 1, 9), 2, 2, bad)), MALFORMED)
        self.assertEqual(raised(Metric, ones(9) + [[0] * 9]), MALFORMED)
        self.assertEqual(raised(Metric, [row[:8] for row in ones(9)]), MALFORMED)
        self.assertEqual(raised(Metric, changed(ones(9), 0, 0, 1)), LARGE)
        self.assertEqual(raised(Metric, changed(ones(9), 0, 1, -7)), LARGE)
        self.assertEqual(raised(Metric, [[0] * 9 for _ in range(9)]), LARGE)

    def test_against_the_definition(self):
        random = seeded(41)
        kinds = []
        for _ in range(600):
            n = random.randint(1, 4)
            rows = [[Fraction(random.randint(0, 3), random.choice((1, 1, 2))) for _ in range(n)] for _ in range(n)]
            if random.random() < 0.9:
                rows = [[rows[min(x, y)][max(x, y)] * (x != y) for y in range(n)] for x in range(n)]
            good = is_metric(rows)
            self.assertEqual(raised(Metric, ratio_rows(rows)), None if good else NO_METRIC)
            kinds.append(good)
        self.assertGreater(min(kinds.count(True), kinds.count(False)), 50)

    def test_arguments_stay_the_same(self):
        rows = [[0, 1], [Ratio(1), 0]]
        before = shown(rows)
        m = Metric(rows)
        self.assertEqual(shown(rows), before)
        rows[0][1] = 7
        rows.append([1, 2])
        self.assertEqual(str(m), "2: 0 1; 1 0")


class Methods(unittest.TestCase):
    def test_distance(self):
        for m in metrics(42, 3):
            for x, y in product(range(m.n), repeat=2):
                self.assertEqual(shown(m.distance(x, y)), shown(m.rows[x][y]))

    def test_pairs(self):
        m = Metric([[0, 1, 2, 3], [1, 0, q("5/2"), 3], [2, q("5/2"), 0, 4], [3, 3, 4, 0]])
        self.assertEqual(shown(m.pairs()), shown(tuple(q(k) for k in (1, 2, 3, Fraction(5, 2), 3, 4))))
        self.assertEqual(Metric([[0]]).pairs(), ())
        self.assertEqual(shown(Metric([[0, 3], [3, 0]]).pairs()), shown((q(3),)))
        for m in metrics(43, 3):
            due = [m.rows[x][y] for x in range(m.n) for y in range(m.n) if x < y]
            self.assertEqual(shown(m.pairs()), shown(tuple(due)))

    def test_is_point(self):
        for n in (1, 2, 5, 8):
            m = Metric(ones(n))
            for value in range(-3, 12):
                self.assertIs(m.is_point(value), 0 <= value < n)
            for value in OTHERS + [Ratio(0), Ratio(1), 10 ** 30, [0], (0,)]:
                self.assertIs(m.is_point(value), False, value)

    def test_equal(self):
        one = Metric([[0, 1], [1, 0]])
        self.assertIs(one == Metric(((Ratio(0), Ratio(1)), (Ratio(2, 2), 0))), True)
        self.assertIs(one != Metric(((Ratio(0), Ratio(1)), (Ratio(2, 2), 0))), False)
        for other in (Metric([[0]]), Metric([[0, 2], [2, 0]]), Metric(ones(3)), Metric([[0, q("1/2")], [q("1/2"), 0]])):
            self.assertIs(one == other, False)
            self.assertIs(one != other, True)
        last = [[0, 2, 2], [2, 0, 2], [2, 2, 0]]
        self.assertIs(Metric(last) == Metric(changed(changed(last, 1, 2, 3), 2, 1, 3)), False)
        three = Metric(ones(3))
        for value in OTHERS + [0, 3, Ratio(0), three.rows, ones(3), str(three), [three], (three,), one]:
            self.assertIs(three == value, False, value)
            self.assertIs(value == three, False, value)
            self.assertIs(three != value, True, value)

    def test_text(self):
        self.assertEqual(str(Metric([[0, q("1/2")], [q("1/2"), 0]])), "2: 0 1/2; 1/2 0")
        self.assertEqual(str(Metric([[0]])), "1: 0")
        self.assertEqual(str(Metric([[0, 1, 2], [1, 0, 1], [2, 1, 0]])), "3: 0 1 2; 1 0 1; 2 1 0")
        self.assertEqual(str(Metric(ones(8))), "8: " + "; ".join(" ".join(str(k) for k in row) for row in ones(8)))


class Pseudometrics(unittest.TestCase):
    def test_values_without_the_form(self):
        for value in FORMLESS:
            self.assertIs(is_pseudometric(value), False, value)
        self.assertIs(is_pseudometric(Metric([[0]])), False)

    def test_zeros_between_unlike_points(self):
        for rows in ([[0]], ((Ratio(0),),), [[0, 0], [0, 0]], [[0, 0, 1], (0, 0, Ratio(1)), [1, 1, 0]], [[0] * 8] * 8):
            self.assertIs(is_pseudometric(rows), True, rows)
        for rows in ([[0, 0, 1], [0, 0, 2], [1, 2, 0]], [[1]], [[0, 1], [0, 0]], [[0, -1], [-1, 0]], [[-1]]):
            self.assertIs(is_pseudometric(rows), False, rows)

    def test_nine_points(self):
        self.assertIs(is_pseudometric(ones(8)), True)
        self.assertIs(is_pseudometric(ones(9)), False)
        self.assertIs(is_pseudometric([[0] * 9] * 9), False)

    def test_each_item_counts(self):
        for n in range(1, 9):
            self.assertIs(is_pseudometric(ones(n)), True)
            for x, y in product(range(n), repeat=2):
                for item in (1, -1) if x == y else (0, -1, 2, q("1/2")):
                    self.assertIs(is_pseudometric(changed(ones(n), x, y, item)), False)

    def test_against_the_definition(self):
        random = seeded(44)
        kinds = []
        for _ in range(600):
            n = random.randint(1, 4)
            rows = [[random.randint(0, 2) for _ in range(n)] for _ in range(n)]
            rows = [[rows[min(x, y)][max(x, y)] * (x != y) for y in range(n)] for x in range(n)]
            good = all(rows[x][z] <= rows[x][y] + rows[y][z] for x, y, z in product(range(n), repeat=3))
            self.assertIs(is_pseudometric(rows), good)
            kinds.append(good)
        self.assertGreater(min(kinds.count(True), kinds.count(False)), 50)

    def test_metrics_are_such(self):
        for m in metrics(45, 2):
            self.assertIs(is_pseudometric(m.rows), True)
            self.assertIs(is_pseudometric([list(row) for row in m.rows]), True)


class Texts(unittest.TestCase):
    def test_read_back(self):
        for m in metrics(46, 8):
            found = read_metric(str(m))
            self.assertIsInstance(found, Metric)
            self.assertEqual(shown(found.rows), shown(m.rows))
        for text in TOLD:
            self.assertEqual(str(read_metric(text)), text)

    def test_texts_that_are_none(self):
        for text in (
            "", " ", ":", "1", "1:", "1: ", "1:0", "1:  0", " 1: 0", "1: 0 ", "1: 0;", "1: 0; ", "1 : 0", "1: 0\n", "0: ",
            "0:", "0", "-1: 0", "01: 0", "+1: 0", "1: 00", "1: -0", "1: 0/1", "1: 1", "1: x", "x: 0", ": 0", "1; 0", "1, 0",
            "2: 0 1 1 0", "2: 0 1;1 0", "2: 0 1 ; 1 0", "2: 0 1;  1 0", "2: 0  1; 1 0", "2: 0 1; 1 0;", "2: ; 0 1; 1 0",
            "2: 0 1;; 1 0", "2: 0 1; ; 1 0", "2:; 0 1; 1 0", "2: 0 1; 1 0 ", "2: 0 1; 1", "2: 0 1; 1 0 0", "2: 0; 1; 1; 0",
            "1: 0 1; 1 0", "3: 0 1; 1 0", "22: 0 1; 1 0", "2: 2: 0 1; 1 0", "2: 0 1: 1 0", "2: 0 1; 1 0; 1 1", "2: 0\t1; 1 0",
            "2: 0 1.0; 1.0 0", "2: 0 2/2; 2/2 0", "2: 0 2/4; 1/2 0", "2: 0 01; 1 0", "2: 0 +1; 1 0", "2: 0 1/1; 1 0",
            "2: 0 1 0; 1 0 0", "2: [0 1; 1 0]", "2: 0, 1; 1, 0", "2: 0 1/ 2; 1/2 0", "2: 0 1\n1 0", "\n2: 0 1; 1 0",
            "2: 0 \u0661; \u0661 0", "\u0662: 0 1; 1 0", "2: 0 1; 1 0\u00a0", "2:\u00a00 1; 1 0", "2: 0 1\uff1b 1 0",
            "2: 0 1; 2 0", "2: 0 0; 0 0", "2: 0 -1; -1 0", "2: 1 1; 1 0", "3: 0 1 3; 1 0 1; 3 1 0", "3: 0 1 1; 1 0 1; 1 1",
            "9: " + "; ".join(" ".join(str(k) for k in row) for row in ones(9)), "0 1; 1 0", "2 0 1; 1 0", "2. 0 1; 1 0",
        ):
            self.assertEqual(raised(read_metric, text), NO_TEXT, text)

    def test_each_sign_counts(self):
        for text in ("1: 0", "2: 0 1/2; 1/2 0", "3: 0 1 2; 1 0 3; 2 3 0"):
            texts = set()
            for at in range(len(text) + 1):
                texts.add(text[:at] + text[at + 1:])
                for sign in "0 1;:/-2":
                    texts |= {text[:at] + sign + text[at:], text[:at] + sign + text[at + 1:]}
            for other in texts - {text}:
                fault = raised(read_metric, other)
                if fault is None:
                    self.assertEqual(str(read_metric(other)), other)
                else:
                    self.assertEqual(fault, NO_TEXT)

    def test_every_other_value(self):
        for value in FORMLESS + [1, Metric([[0]]), [[0]], ["1: 0"], ("1: 0",), [[0, 1], [1, 0]]]:
            if value != "1: 0":
                self.assertEqual(raised(read_metric, value), NO_TEXT, value)

    def test_many_digits(self):
        # The written form of the second number has 4001 characters, more than read_ratio takes.
        for number in (Ratio(7 ** 2000, 3 ** 2000), Ratio(10 ** 1999 + 1, 10 ** 1999), Ratio(10 ** 1999)):
            m = Metric([[0, number], [number, 0]])
            self.assertEqual(shown(read_metric(str(m)).rows), shown(m.rows))

    def test_the_same_text_gives_the_same_metric(self):
        random = seeded(47)
        for n in range(1, 9):
            text = str(random_metric(random, n))
            self.assertIs(read_metric(text) == read_metric(text), True)
            self.assertEqual(table(read_metric(text)), table(read_metric(text)))


if __name__ == "__main__":
    unittest.main()
