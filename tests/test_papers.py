import unittest

from metricparts.build import complete, cycle, path, scaled
from metricparts.checker import takes_cuts, takes_euclid, takes_isometry, takes_splits, takes_tree, takes_ultra
from metricparts.cuts import cut_weights
from metricparts.errors import NoText
from metricparts.euclid import is_euclidean
from metricparts.isometry import find_isometry
from metricparts.metric import Metric, read_metric
from metricparts.papers import cut_paper, euclid_paper, isometry_paper, split_paper, tree_paper, ultra_paper
from metricparts.ratio import Ratio, is_integer
from metricparts.splits import decomposition
from metricparts.tree import Tree, failing_quadruple, is_tree_metric, tree_of
from metricparts.ultra import failing_triple, is_ultrametric
from tests.helper import OTHERS, metrics, q, row, rows, seeded, shown
from tests.test_euclid import spaces, sums_of_cuts
from tests.test_isometry import kept, some_pairs
from tests.test_tree import random_tree
from tests.test_ultra import ultrametrics

ONE = Metric([[0]])
LINE = path([1, 2])
SQUARE = cycle([1, 1, 1, 1])
# Two and three points, joined across.
ACROSS = read_metric("5: 0 2 1 1 1; 2 0 1 1 1; 1 1 0 2 2; 1 1 2 0 2; 1 1 2 2 0")
PAIRS = (
    (tree_paper, takes_tree), (ultra_paper, takes_ultra), (cut_paper, takes_cuts), (euclid_paper, takes_euclid),
    (split_paper, takes_splits),
)


def all_kinds(seed, many=2):
    """Give metrics of 1 to 8 points: trees, ultrametrics, cut sums, Euclidean ones, and any."""
    random = seeded(seed)
    yield from (ACROSS, SQUARE)
    for n in range(1, 9):
        for _ in range(many):
            yield Tree(n, random_tree(random, n)).metric()
    yield from ultrametrics(seed, many)
    yield from sums_of_cuts(seed, many)
    yield from spaces(seed, 1)
    yield from metrics(seed, many)


def of_another_kind(value):
    """Return values that may not stand in the place of a part of a paper: those of another kind, though equal."""
    if isinstance(value, tuple):
        return [list(value), None, 1, "", "tuple", Ratio(1), True, ONE, NoText(0)]
    if isinstance(value, Ratio):
        found = [None, True, False, str(value), (value,), [value], value.n, ONE, ()]
        return found
    if isinstance(value, str):
        return [None, True, 0, (value,), [value], value + " ", value.upper(), value[:-1], "", "paper", Ratio(1), ONE]
    return [None, True, False, Ratio(value), str(value), (value,), [value], -1 - value, 10 ** 30, ONE, ()]


def spoilt(paper):
    """Give papers with one place changed to a value of another kind, one part left out, and one more."""
    yield from of_another_kind(paper)
    if isinstance(paper, tuple):
        yield paper + (None,)
        yield paper + paper[-1:] if paper else ((),)
        for at, part in enumerate(paper):
            yield paper[:at] + paper[at + 1:]
            for other in spoilt(part):
                yield paper[:at] + (other,) + paper[at + 1:]


class Papers(unittest.TestCase):
    def test_each_is_accepted(self):
        counts = {}
        for m in all_kinds(241, 3):
            before = shown(m.rows)
            for make, takes in PAIRS:
                paper = make(m)
                self.assertIs(takes(m, paper), True)
                self.assertEqual(shown(make(Metric(m.rows))), shown(paper))
                self.assertEqual(shown(m.rows), before)
                counts[make, paper[0]] = counts.get((make, paper[0]), 0) + 1
        self.assertEqual(len(counts), 9)
        self.assertGreater(min(counts.values()), 5)

    def test_trees(self):
        self.assertEqual(tree_paper(ONE), ("tree", 1, ()))
        due = ("tree", 4, ((0, 3, q("1/2")), (1, 3, q("1/2")), (2, 3, q("1/2"))))
        self.assertEqual(shown(tree_paper(complete(3, 1))), shown(due))
        self.assertEqual(shown(tree_paper(LINE)), shown(("tree", 3, ((0, 1, q(1)), (1, 2, q(2))))))
        self.assertEqual(tree_paper(SQUARE), ("points", 0, 1, 2, 3))
        for m in all_kinds(242):
            paper = tree_paper(m)
            if is_tree_metric(m):
                self.assertEqual(shown(paper), shown(("tree", tree_of(m).size, tree_of(m).edges)))
            else:
                self.assertEqual((paper[0], len(paper)), ("points", 5))
                self.assertIsNotNone(failing_quadruple(m))

    def test_ultrametrics(self):
        self.assertEqual(ultra_paper(ONE), ("levels", ()))
        self.assertEqual(ultra_paper(LINE)[0], "points")
        for m in all_kinds(243):
            paper = ultra_paper(m)
            if is_ultrametric(m):
                self.assertEqual((paper[0], len(paper)), ("levels", 2))
            else:
                self.assertEqual((paper[0], len(paper)), ("points", 4))
                self.assertIsNotNone(failing_triple(m))

    def test_cuts(self):
        self.assertEqual(cut_paper(ONE), ("cuts", ()))
        self.assertEqual(shown(cut_paper(SQUARE)), shown(("cuts", (((1, 2), q(1)), ((2, 3), q(1))))))
        self.assertEqual(cut_paper(ACROSS)[0], "functional")
        for m in all_kinds(244, 1):
            self.assertEqual(cut_paper(m)[0], "functional" if cut_weights(m) is None else "cuts")

    def test_spaces(self):
        self.assertEqual(euclid_paper(ONE), ("euclid", (), ()))
        self.assertEqual(shown(euclid_paper(LINE)), shown(("euclid", rows("1", "3"), row("1"))))
        self.assertEqual(euclid_paper(SQUARE)[0], "vector")
        for m in all_kinds(245):
            self.assertEqual(euclid_paper(m)[0], "euclid" if is_euclidean(m) else "vector")

    def test_isometries(self):
        self.assertEqual(isometry_paper(ONE, ONE), ("isometric", (0,)))
        self.assertEqual(isometry_paper(LINE, path([2, 1])), ("isometric", (2, 1, 0)))
        self.assertEqual(isometry_paper(LINE, path([1, 1])), ("unlike",))
        self.assertEqual(isometry_paper(LINE, path([1])), ("sizes",))
        self.assertEqual(isometry_paper(path([1]), LINE), ("sizes",))
        self.assertEqual(isometry_paper(complete(8, 1), complete(8, 1)), ("isometric", tuple(range(8))))
        words = []
        for a, b in some_pairs(246, 5):
            paper = isometry_paper(a, b)
            images = kept(a, b)
            due = ("sizes",) if a.n != b.n else ("isometric", images[0]) if images else ("unlike",)
            self.assertEqual(shown(paper), shown(due))
            words.append(paper[0])
        self.assertGreater(min(words.count(word) for word in ("isometric", "unlike", "sizes")), 5)
        for a, b in some_pairs(247, 8):
            paper = isometry_paper(a, b)
            self.assertIs(takes_isometry(a, b, paper), True)
            self.assertEqual(paper[1:], () if find_isometry(a, b) is None else (find_isometry(a, b),))

    def test_splits(self):
        self.assertEqual(shown(split_paper(ONE)), shown(("splits", (), rows("0"))))
        due = ("splits", (((1, 2), q(1)), ((2, 3), q(1))), rows(*["0 0 0 0"] * 4))
        self.assertEqual(shown(split_paper(SQUARE)), shown(due))
        for m in all_kinds(248, 1):
            self.assertEqual(shown(split_paper(m)), shown(("splits", *decomposition(m))))

    def test_kinds_of_their_parts(self):
        def kinds(value):
            if isinstance(value, tuple):
                return all(kinds(item) for item in value)
            return isinstance(value, (str, Ratio)) or is_integer(value)

        for m in all_kinds(249, 1):
            for make, _ in PAIRS:
                self.assertIs(type(make(m)), tuple)
                self.assertTrue(kinds(make(m)))


class Spoilt(unittest.TestCase):
    """Papers that the checker accepts, with one place changed."""

    def small(self, seed):
        return [m for m in all_kinds(seed, 1) if m.n < 6] + [path([1] * 7), complete(6, Ratio(1, 3))]

    def test_one_place_of_another_kind(self):
        for m in self.small(250):
            for make, takes in PAIRS:
                paper = make(m)
                for other in spoilt(paper):
                    self.assertIs(takes(m, other), False, shown(other))
                self.assertIs(takes(m, paper), True)

    def test_one_place_of_an_isometry(self):
        for a, b in some_pairs(251, 5):
            paper = isometry_paper(a, b)
            for other in spoilt(paper):
                self.assertIs(takes_isometry(a, b, other), False, shown(other))

    def test_another_metric(self):
        # Most of the papers tell all distances, and so are those of one metric alone.
        for m in self.small(252):
            for make, takes in PAIRS:
                paper = make(m)
                if m.n > 1 and paper[0] in ("tree", "levels", "cuts", "euclid", "splits"):
                    self.assertIs(takes(scaled(m, 2), paper), False)
                    self.assertIs(takes(path([1] * (m.n % 8)), paper), False)

    def test_the_paper_of_another_checker(self):
        for m in self.small(253):
            for make, _ in PAIRS:
                for other, takes in PAIRS:
                    if make is not other:
                        self.assertIs(takes(m, make(m)), False)
                self.assertIs(takes_isometry(m, m, make(m)), False)
            for _, takes in PAIRS:
                for paper in (isometry_paper(m, m), ("sizes",), ("unlike",)):
                    self.assertIs(takes(m, paper), False)

    def test_every_other_value(self):
        deep = ()
        for _ in range(3000):
            deep = (deep,)
        words = ("tree", "points", "levels", "cuts", "functional", "euclid", "vector", "isometric", "unlike", "sizes",
                 "splits")
        values = OTHERS + [0, 1, -1, 10 ** 30, Ratio(1), SQUARE, [None], Tree(1, []), deep, [deep],
                           ("tree", deep, deep)]
        values += [(word,) * many for word in words for many in range(1, 5) if (word, many) not in (
            ("unlike", 1), ("sizes", 1))]
        values += [(word, *[deep] * many) for word in words for many in range(1, 5)]
        values += [(word, *[()] * many) for word in words for many in range(1, 5)]
        values += [[word, (), ()] for word in words]
        for m in (path([1]), LINE, SQUARE, ACROSS, complete(8, 1)):
            for _, takes in PAIRS:
                for value in values:
                    self.assertIs(takes(m, value), False)
            for value in values:
                self.assertIs(takes_isometry(m, m, value), False)
                self.assertIs(takes_isometry(m, ONE, value), False)

    def test_no_paper_is_changed(self):
        for m in self.small(254):
            for make, takes in PAIRS:
                paper = make(m)
                before = shown((paper, m.rows))
                self.assertIs(takes(m, paper), takes(m, paper))
                self.assertEqual(shown((paper, m.rows)), before)


if __name__ == "__main__":
    unittest.main()
