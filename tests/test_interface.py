import ast
import importlib
import inspect
import pathlib
import unittest

PACKAGE = pathlib.Path(__file__).resolve().parent.parent / "metricparts"

# The names of each module with the arguments that DOC.md lists.
FUNCTIONS = {
    "ratio": {
        "is_integer": "(value)", "less": "(a, b)", "at_most": "(a, b)", "zero": "()", "one": "()",
        "is_rational": "(value)", "as_ratio": "(value)", "total": "(numbers)", "least": "(numbers)",
        "greatest": "(numbers)", "ascending": "(numbers)", "read_ratio": "(text)",
    },
    "linear": {
        "dot": "(v, w)", "combine": "(rows, weights, width)", "reduced": "(rows, width)", "rank": "(rows, width)",
        "kernel": "(rows, width)", "determinant": "(rows)", "solve": "(rows, width, right)",
    },
    "simplex": {"feasible": "(columns, right)"},
    "metric": {"is_pseudometric": "(rows)", "read_metric": "(text)"},
    "build": {
        "from_graph": "(n, edges)", "path": "(lengths)", "cycle": "(lengths)", "star": "(lengths)",
        "complete": "(n, length)", "l1_points": "(points)", "scaled": "(m, factor)", "truncated": "(m, bound)",
        "restricted": "(m, points)", "added": "(a, b)", "greater": "(a, b)", "product": "(a, b)",
        "extended": "(m, distances)", "splits": "(n)", "cut_rows": "(n, split)", "cut_sum": "(n, weights)",
    },
    "points": {
        "between": "(m, x, z)", "medians": "(m, x, y, z)", "gromov": "(m, r, x, y)", "eccentricity": "(m, x)",
        "radius": "(m)", "diameter": "(m)", "centre": "(m)", "gap": "(m, x, y, u, v)", "hyperbolicity": "(m)",
        "widest": "(m)",
    },
    "isometry": {
        "isometries": "(a, b)", "find_isometry": "(a, b)", "group": "(m)", "similarity": "(a, b)",
        "hausdorff": "(a, b)",
    },
    "ultra": {"is_ultrametric": "(m)", "failing_triple": "(m)", "hierarchy": "(m)", "single_linkage": "(m)"},
    "tree": {"failing_quadruple": "(m)", "is_tree_metric": "(m)", "tree_of": "(m)"},
    "splits": {
        "is_split": "(n, value)", "isolation_index": "(m, split)", "decomposition": "(m)",
        "are_compatible": "(n, one, two)", "are_weakly_compatible": "(n, one, two, three)",
        "is_totally_decomposable": "(m)",
    },
    "cuts": {
        "cut_weights": "(m)", "cut_functional": "(m)", "l1_embedding": "(m)", "cube_embedding": "(m)",
        "possible_splits": "(m)", "is_rigid": "(m)", "hypermetric_sum": "(m, b)",
        "hypermetric_failure": "(m, bound)",
    },
    "euclid": {
        "gram": "(m)", "type_gram": "(m)", "squares_of": "(rows)", "negative_vector": "(rows)", "is_euclidean": "(m)",
        "dimension": "(m)", "coordinates": "(m)", "sphere": "(m)", "is_negative_type": "(m)",
        "positive_weights": "(m)", "cayley_menger": "(m, points)",
    },
    "span": {
        "is_above": "(m, f)", "is_tight": "(m, f)", "pushed_down": "(m, f)", "span_distance": "(m, f, g)",
        "span_vertices": "(m)", "span_edges": "(m)",
    },
    "papers": {
        "tree_paper": "(metric)", "ultra_paper": "(metric)", "cut_paper": "(metric)", "euclid_paper": "(metric)",
        "isometry_paper": "(a, b)", "split_paper": "(metric)",
    },
    "checker": {
        "takes_tree": "(metric, paper)", "takes_ultra": "(metric, paper)", "takes_cuts": "(metric, paper)",
        "takes_euclid": "(metric, paper)", "takes_isometry": "(a, b, paper)", "takes_splits": "(metric, paper)",
    },
    "sheet": {"read_line": "(line)"},
    "replies": {"reply_to": "(names, line)", "defined": "(names, line)", "is_right": "(names, entry)"},
    "log": {
        "write_data": "(data)", "read_data": "(text)", "write_log": "(entries)", "read_log": "(text)",
        "first_wrong": "(entries)",
    },
}
CLASSES = {
    "errors": {
        "Fault": {}, "Malformed": {}, "ZeroDivisor": {}, "Refused": {"__init__": "(self, reason)"},
        "NoText": {"__init__": "(self, at)"},
    },
    "ratio": {
        "Ratio": {
            "__init__": "(self, n, d=1)", "__add__": "(self, other)", "__sub__": "(self, other)",
            "__mul__": "(self, other)", "__neg__": "(self)", "__eq__": "(self, other)", "__str__": "(self)",
            "is_zero": "(self)", "sign": "(self)", "absolute": "(self)", "over": "(self, b)", "half": "(self)",
        },
    },
    "metric": {
        "Metric": {
            "__init__": "(self, rows)", "__eq__": "(self, other)", "__str__": "(self)", "distance": "(self, x, y)",
            "pairs": "(self)", "is_point": "(self, value)",
        },
    },
    "tree": {
        "Tree": {
            "__init__": "(self, n, edges)", "__eq__": "(self, other)", "distance": "(self, x, y)",
            "metric": "(self)", "numbered": "(self)",
        },
    },
    "replies": {"Reply": {"__init__": "(self, kind, text='', data=())", "__eq__": "(self, other)"}},
    "console": {
        "Console": {
            "__init__": "(self, *, most=300)", "__len__": "(self)", "__iter__": "(self)", "enter": "(self, line)",
            "names": "(self)", "log": "(self)",
        },
    },
}
# The modules by the chapters of DOC.md. The errors stand before all of them.
CHAPTERS = {
    "errors": 0, "ratio": 1, "linear": 1, "simplex": 1, "metric": 2, "build": 2, "points": 3, "isometry": 3, "ultra": 4,
    "tree": 4, "splits": 5, "cuts": 6, "euclid": 7, "span": 8, "papers": 9, "checker": 9,
    "sheet": 10, "replies": 10, "log": 10, "console": 10,
}


def module(name):
    return importlib.import_module("metricparts." + name)


class Interface(unittest.TestCase):
    def test_functions_stand_in_their_files(self):
        for name, functions in FUNCTIONS.items():
            for function, arguments in functions.items():
                found = getattr(module(name), function)
                self.assertTrue(inspect.isfunction(found), function)
                self.assertEqual(found.__module__, "metricparts." + name)
                self.assertEqual(str(inspect.signature(found)), arguments, function)

    def test_classes_stand_in_their_files_with_their_methods(self):
        for name, classes in CLASSES.items():
            for word, methods in classes.items():
                found = getattr(module(name), word)
                self.assertTrue(inspect.isclass(found), word)
                self.assertEqual(found.__module__, "metricparts." + name)
                for method, arguments in methods.items():
                    self.assertIn(method, vars(found))
                    self.assertEqual(str(inspect.signature(vars(found)[method])), arguments, method)

    def test_each_chapter_uses_those_before_it(self):
        self.assertEqual({path.stem for path in PACKAGE.glob("*.py")} - {"__init__"}, set(CHAPTERS))
        for name, chapter in CHAPTERS.items():
            for node in ast.walk(ast.parse((PACKAGE / (name + ".py")).read_text("utf-8"))):
                if isinstance(node, ast.ImportFrom) and node.module.startswith("metricparts."):
                    self.assertLessEqual(CHAPTERS[node.module.removeprefix("metricparts.")], chapter, name)

    def test_the_package_itself_defines_nothing(self):
        self.assertEqual(ast.parse((PACKAGE / "__init__.py").read_text("utf-8")).body, [])
        files = {path.stem for path in PACKAGE.glob("*.py")}
        names = {name for name in vars(importlib.import_module("metricparts")) if not name.startswith("__")}
        self.assertEqual(names - files, set())


if __name__ == "__main__":
    unittest.main()
