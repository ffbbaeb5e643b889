"""What DOC.md promises over the whole program: its examples, and that nothing changes but a console."""

import ast
import doctest
import importlib
import pathlib
import unittest

from metricparts.build import complete, cycle, path
from metricparts.console import Console
from metricparts.errors import Fault, Malformed, NoText, Refused, ZeroDivisor
from metricparts.metric import Metric, read_metric
from metricparts.papers import cut_paper, euclid_paper, split_paper, tree_paper, ultra_paper
from metricparts.ratio import Ratio
from metricparts.replies import Reply
from metricparts.tree import Tree
from tests.helper import OTHERS, row, rows
from tests.test_interface import CLASSES, FUNCTIONS

PACKAGE = pathlib.Path(__file__).resolve().parent.parent / "metricparts"
EXAMPLES = """
>>> from metricparts.ratio import Ratio
>>> str(Ratio(1, 2) + Ratio(-2, 3))
'-1/6'

>>> from metricparts.simplex import feasible
>>> feasible([(Ratio(1), Ratio(1)), (Ratio(0), Ratio(1))], (Ratio(2), Ratio(1)))[0]
'functional'

>>> from metricparts.build import cycle, splits
>>> str(cycle([1, 1, 2]))
'3: 0 1 2; 1 0 1; 2 1 0'

>>> splits(3)
((1,), (1, 2), (2,))

>>> from metricparts.build import cycle
>>> from metricparts.points import hyperbolicity, medians
>>> str(hyperbolicity(cycle([1, 1, 1, 1])))
'1'

>>> medians(cycle([1, 1, 1, 1]), 0, 1, 2)
(1,)

>>> from metricparts.build import cycle
>>> from metricparts.cuts import is_rigid, possible_splits
>>> possible_splits(cycle([1, 1, 1, 1]))
((1, 2), (2, 3))

>>> is_rigid(cycle([1, 1, 1, 1]))
True

>>> from metricparts.build import cycle, path
>>> from metricparts.euclid import dimension, is_euclidean
>>> dimension(path([1, 2]))
1

>>> is_euclidean(cycle([1, 1, 1, 1]))
False

>>> from metricparts.console import Console
>>> console = Console()
>>> console.enter("let a = 3: 0 1 2; 1 0 2; 2 2 0").kind
'metric'

>>> console.enter("ultra a").text
'yes'
"""


def square():
    return cycle([1, 1, 1, 1])


def line():
    return path([1, Ratio(1, 2)])


# For each function arguments, made anew each time: lists where these are allowed, so that a change would show.
CALLS = {
    "ratio": {
        "is_integer": lambda: [3], "less": lambda: [Ratio(1), Ratio(1, 2)], "at_most": lambda: [Ratio(1), Ratio(1)],
        "zero": lambda: [],
        "one": lambda: [], "is_rational": lambda: [[1]], "as_ratio": lambda: [3],
        "total": lambda: [[Ratio(1), Ratio(2)]],
        "least": lambda: [[Ratio(2), Ratio(1)]], "greatest": lambda: [[Ratio(2), Ratio(1)]],
        "ascending": lambda: [[Ratio(2), Ratio(1)]],
        "read_ratio": lambda: ["-1/2"],
    },
    "linear": {
        "dot": lambda: [row("1 2"), row("3 4")], "combine": lambda: [list(rows("1 2", "3 4")), list(row("1 -1")), 2],
        "reduced": lambda: [list(rows("1 2", "3 4")), 2], "rank": lambda: [list(rows("1 2", "2 4")), 2],
        "kernel": lambda: [list(rows("1 2", "2 4")), 2],
        "determinant": lambda: [list(rows("0 2", "3 4"))], "solve": lambda: [list(rows("1 2", "3 4")), 2,
                                                                             list(row("1 1"))],
    },
    "simplex": {"feasible": lambda: [list(rows("1 0", "0 1")), row("1 2")]},
    "metric": {"is_pseudometric": lambda: [[[0, 1], [1, 0]]], "read_metric": lambda: ["2: 0 1; 1 0"]},
    "build": {
        "from_graph": lambda: [3, [(0, 1, 1), (1, 2, 2)]], "path": lambda: [[1, 2]], "cycle": lambda: [[1, 2, 3]],
        "star": lambda: [[1, 2, 3]],
        "complete": lambda: [3, 2], "l1_points": lambda: [[[0, 1], [2, 3]]], "scaled": lambda: [square(), 2],
        "truncated": lambda: [square(), 1],
        "restricted": lambda: [square(), [3, 0]], "added": lambda: [square(), complete(4, 1)],
        "greater": lambda: [square(), complete(4, 1)],
        "product": lambda: [square(), path([1])], "extended": lambda: [line(), [1, 1, 1]], "splits": lambda: [4],
        "cut_rows": lambda: [4, (1, 2)],
        "cut_sum": lambda: [3, [1, 2, 3]],
    },
    "points": {
        "between": lambda: [square(), 0, 2], "medians": lambda: [square(), 0, 1, 2],
        "gromov": lambda: [square(), 0, 1, 2],
        "eccentricity": lambda: [square(), 0], "radius": lambda: [square()], "diameter": lambda: [square()],
        "centre": lambda: [square()],
        "gap": lambda: [square(), 0, 1, 2, 3], "hyperbolicity": lambda: [square()], "widest": lambda: [square()],
    },
    "isometry": {
        "isometries": lambda: [square(), square()], "find_isometry": lambda: [square(), square()],
        "group": lambda: [square()],
        "similarity": lambda: [square(), square()], "hausdorff": lambda: [square(), line()],
    },
    "ultra": {
        "is_ultrametric": lambda: [square()], "failing_triple": lambda: [square()],
        "hierarchy": lambda: [complete(4, 1)],
        "single_linkage": lambda: [line()],
    },
    "tree": {"failing_quadruple": lambda: [square()], "is_tree_metric": lambda: [square()],
             "tree_of": lambda: [line()]},
    "splits": {
        "is_split": lambda: [4, [1, 2]], "isolation_index": lambda: [square(), (1, 2)],
        "decomposition": lambda: [square()],
        "are_compatible": lambda: [4, (1, 2), (2, 3)], "are_weakly_compatible": lambda: [4, (1, 2), (2, 3), (1, 3)],
        "is_totally_decomposable": lambda: [square()],
    },
    "cuts": {
        "cut_weights": lambda: [square()], "cut_functional": lambda: [square()], "l1_embedding": lambda: [square()],
        "cube_embedding": lambda: [line()], "possible_splits": lambda: [square()], "is_rigid": lambda: [square()],
        "hypermetric_sum": lambda: [square(), [1, 1, -1, 0]], "hypermetric_failure": lambda: [square(), 1],
    },
    "euclid": {
        "gram": lambda: [square()], "type_gram": lambda: [square()], "squares_of": lambda: [list(rows("1 1", "1 3"))],
        "negative_vector": lambda: [list(rows("1 2", "2 1"))], "is_euclidean": lambda: [square()],
        "dimension": lambda: [line()],
        "coordinates": lambda: [line()], "sphere": lambda: [complete(4, 1)], "is_negative_type": lambda: [square()],
        "positive_weights": lambda: [square()], "cayley_menger": lambda: [square(), [3, 0, 1]],
    },
    "span": {
        "is_above": lambda: [line(), [1, 1, 1]], "is_tight": lambda: [line(), [1, 1, 1]],
        "pushed_down": lambda: [line(), [2, 2, 2]],
        "span_distance": lambda: [line(), [1, 1, 1], [2, Ratio(1, 2), 2]], "span_vertices": lambda: [square()],
        "span_edges": lambda: [square()],
    },
    "papers": {
        "tree_paper": lambda: [square()], "ultra_paper": lambda: [complete(4, 1)], "cut_paper": lambda: [square()],
        "euclid_paper": lambda: [line()],
        "isometry_paper": lambda: [square(), square()], "split_paper": lambda: [square()],
    },
    "checker": {
        "takes_tree": lambda: [line(), tree_paper(line())], "takes_ultra": lambda: [line(), ultra_paper(line())],
        "takes_cuts": lambda: [line(), cut_paper(line())], "takes_euclid": lambda: [line(), euclid_paper(line())],
        "takes_isometry": lambda: [line(), line(), ["isometric", (0, 1, 2)]],
        "takes_splits": lambda: [line(), split_paper(line())],
    },
    "sheet": {"read_line": lambda: ["scaled b a 1/2"]},
    "replies": {
        "reply_to": lambda: [{"a": line()}, "let a = 1: 0"], "defined": lambda: [{"a": line()}, "scaled a a 2"],
        "is_right": lambda: [{"a": line()}, ("show a", Reply("metric", str(line())))],
    },
    "log": {
        "write_data": lambda: [("a", (1, Ratio(2)))], "read_data": lambda: ["(a (1 q2))"],
        "write_log": lambda: [[("", Reply("done")), ("x", Reply("error", "text"))]],
        "read_log": lambda: ["> \n= done \n# ()\n"], "first_wrong": lambda: [[("let a = 1: 0", Reply("metric", "1: 0")),
                                                                              ("show a", Reply("metric", "1: 0"))]],
    },
}


def deep(value):
    """Return what a value is, in builtin values that compare by contents and kinds."""
    if isinstance(value, (list, tuple)):
        return (type(value).__name__, [deep(item) for item in value])
    if isinstance(value, dict):
        return ("dict", [(deep(key), deep(item)) for key, item in value.items()])
    if isinstance(value, (Ratio, Metric, Tree, Reply, Fault)):
        return (type(value).__name__, deep(vars(value)))
    return (type(value).__name__, value)


def outcome(call, arguments):
    """Return what a call returns, or the error that it raises."""
    try:
        return call(*arguments)
    except Fault as fault:
        return fault


class Program(unittest.TestCase):
    def calls(self):
        for name, functions in CALLS.items():
            module = importlib.import_module("metricparts." + name)
            for function, arguments in functions.items():
                yield function, getattr(module, function), arguments

    def test_the_examples_of_the_document(self):
        found = doctest.DocTestParser().get_doctest(EXAMPLES, {}, "DOC", "DOC.md", 0)
        lines = []
        result = doctest.DocTestRunner(verbose=False).run(found, out=lines.append)
        self.assertEqual((result.failed, "".join(lines)), (0, ""))
        self.assertGreater(result.attempted, 15)

    def test_each_function_is_called_here(self):
        self.assertEqual({name: set(functions) for name, functions in CALLS.items()},
                         {name: set(functions) for name, functions in FUNCTIONS.items()})

    def test_no_function_changes_its_arguments(self):
        for name, call, arguments in self.calls():
            given = arguments()
            before = deep(given)
            outcome(call, given)
            self.assertEqual(deep(given), before, name)

    def test_equal_arguments_give_equal_results(self):
        for name, call, arguments in self.calls():
            given = arguments()
            first = deep(outcome(call, given))
            self.assertEqual(deep(outcome(call, given)), first, name)
            self.assertEqual(deep(outcome(call, arguments())), first, name)
            self.assertNotIn("Fault", first[0])
            self.assertNotEqual(first[0], "Malformed", name)

    def test_results_do_not_hang_on_the_arguments(self):
        # A list that is changed behind a call changes nothing of what the call returned.
        given = [[0, 1], [1, 0]]
        m = Metric(given)
        given[0][1] = 5
        given.append([])
        self.assertEqual(str(m), "2: 0 1; 1 0")
        edges = [(0, 1, 1)]
        tree = Tree(2, edges)
        edges.clear()
        self.assertEqual(len(tree.edges), 1)

    def test_objects_never_change(self):
        told = [Ratio(1, 2), square(), read_metric("1: 0"), Tree(2, [(0, 1, 1)]), Reply("a", "t", (1, Ratio(2)))]
        before = deep(told)
        for one in told:
            for other in told + OTHERS:
                self.assertIn(one == other, (True, False))
            str(one)
        m, number = told[1], told[0]
        m.distance(0, 1), m.pairs(), m.is_point(1), number + number, number - number, number * number, -number
        number.is_zero(), number.sign(), number.absolute(), number.over(number), number.half()
        told[3].distance(0, 1), told[3].metric(), told[3].numbered()
        self.assertEqual(deep(told), before)

    def test_a_console_alone_changes(self):
        console = Console()
        console.enter("let a = 1: 0")
        before = (deep(list(console)), deep(console.names()), console.log())
        console.names(), console.log(), len(console), list(console)
        self.assertEqual((deep(list(console)), deep(console.names()), console.log()), before)

    def test_the_errors(self):
        for fault in (Malformed("x"), ZeroDivisor("x"), Refused("x"), NoText(0)):
            self.assertIsInstance(fault, Fault)
            self.assertIsInstance(fault, ValueError)

    def test_everything_listed_is_defined_in_its_file(self):
        for name in {**FUNCTIONS, **CLASSES}:
            body = ast.parse((PACKAGE / (name + ".py")).read_text("utf-8")).body
            functions = [node.name for node in body if isinstance(node, ast.FunctionDef)]
            classes = {node.name: [part.name for part in node.body if isinstance(part, ast.FunctionDef)]
                       for node in body if isinstance(node, ast.ClassDef)}
            self.assertLessEqual(set(FUNCTIONS.get(name, {})), set(functions))
            for word, methods in CLASSES.get(name, {}).items():
                self.assertLessEqual(set(methods), set(classes[word]))


if __name__ == "__main__":
    unittest.main()
