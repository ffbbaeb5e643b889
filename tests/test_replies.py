import unittest

from metricparts.build import added, complete, cycle, greater, path, product, scaled, star
from metricparts.errors import Fault
from metricparts.metric import Metric, read_metric
from metricparts.papers import cut_paper, euclid_paper, split_paper, tree_paper, ultra_paper
from metricparts.points import diameter, hyperbolicity, radius
from metricparts.ratio import Ratio
from metricparts.replies import Reply, defined, is_right, reply_to
from metricparts.ultra import single_linkage
from tests.helper import OTHERS, metrics, q, seeded, shown
from tests.test_papers import ACROSS, all_kinds

ONE = Metric([[0]])
LINE = path([1, 2])
SQUARE = cycle([1, 1, 1, 1])
LEVELS = read_metric("4: 0 1 3 3; 1 0 3 3; 3 3 0 2; 3 3 2 0")
NAMES = {"one": ONE, "line": LINE, "square": SQUARE, "across": ACROSS, "turned": path([2, 1]), "levels": LEVELS,
         "simplex": complete(4, Ratio(1, 2)), "many": complete(8, 1), "edge": path([3])}
MAKERS = {"tree": tree_paper, "ultra": ultra_paper, "cuts": cut_paper, "euclid": euclid_paper}
MEASURES = {"radius": radius, "diameter": diameter, "hyperbolicity": hyperbolicity}
YES = ("tree", "levels", "cuts", "euclid", "isometric")
# Values that are no line, or have no form.
NO_LINES = OTHERS + [0, 1, Ratio(1), LINE, "treeline", "tree", "tree line line", "Tree line", "let a = b", "let a=1: 0",
                     "scaled a line x",
                     "tree line\n", "x" * 2001, " " * 2001, "\t", " #", ["tree line"], ("tree", "line"),
                     b"tree line".hex()]


def parts(reply):
    """Return the kind, the text and the data of a reply."""
    return shown((reply.kind, reply.text, reply.data))


def nested(value, many):
    """Return a value in so many tuples."""
    for _ in range(many):
        value = (value,)
    return value


class Replies(unittest.TestCase):
    def test_fields(self):
        reply = Reply("number", "3", (1, Ratio(2)))
        self.assertEqual(parts(reply), shown(("number", "3", (1, Ratio(2)))))
        self.assertEqual(parts(Reply("done")), shown(("done", "", ())))
        self.assertEqual(parts(Reply("done", "x")), shown(("done", "x", ())))
        self.assertEqual(parts(Reply("done", data=(1,))), shown(("done", "", (1,))))
        self.assertEqual(parts(Reply(data=(), text="t", kind="k")), shown(("k", "t", ())))
        self.assertEqual(set(vars(reply)), {"kind", "text", "data"})

    def test_equal(self):
        told = [Reply("a"), Reply("b"), Reply("a", "t"), Reply("a", "u"), Reply("a", "", (1,)), Reply("a", "t", (1,)),
                Reply("a", "t", (1, 2)),
                Reply("a", "t", (Ratio(1),)), Reply("a", "t", (Ratio(1, 2),)), Reply("a", "t", ((1,),)),
                Reply("a", "t", ("b",)),
                Reply("a", "t", [1]), Reply("a", None), Reply(None), Reply("a", "t", (True,)), Reply("a", "t", ([1],)),
                Reply(True),
                Reply(1), Reply("a", "t", (2, 1)), Reply("a", "t", (ONE,)), Reply("a", "t", (LINE,))]
        for at, reply in enumerate(told):
            for other_at, other in enumerate(told):
                self.assertIs(reply == other, at == other_at)
                self.assertIs(reply != other, at != other_at)
        self.assertIs(Reply("a", "t", (Ratio(2, 4), ("x", 1))) == Reply("a", "t", (Ratio(1, 2), ("x", 1))), True)
        self.assertIs(Reply("a") == Reply("a", "", ()), True)
        self.assertIs(Reply("a", "", (Metric([[0]]),)) == Reply("a", "", (ONE,)), True)

    def test_equal_for_every_value(self):
        for value in OTHERS + [0, 1, "a", ("a", "", ()), ["a", "", ()], Ratio(1), ONE, {}, object()]:
            self.assertIs(Reply("a") == value, False)
            self.assertIs(value == Reply("a"), False)
            for reply in (Reply(value), Reply("a", value), Reply("a", "t", value), Reply("a", "t", (value,))):
                self.assertIs(reply == Reply("c", "c", "c"), False)
                self.assertIs(reply == reply, True)

    def test_equal_for_deep_values(self):
        deep = Reply("a", "", nested(1, 5000))
        self.assertIs(deep == Reply("a", "", nested(1, 5000)), True)
        self.assertIs(deep == Reply("a", "", nested(2, 5000)), False)
        self.assertIs(deep == Reply("a", "", nested(1, 5001)), False)
        self.assertIs(deep == Reply("a"), False)

    def test_equal_for_lists(self):
        for many in (0, 1, 2, 2000):
            told = [Reply("a", "", value) for value in (1, 2, True, "1", Ratio(1))]
            for reply in told:
                for _ in range(many):
                    reply.data = [reply.data]
            for at, reply in enumerate(told):
                for other_at, other in enumerate(told):
                    self.assertIs(reply == other, at == other_at)
        self.assertIs(Reply("a", "", [1, [2]]) == Reply("a", "", [1, [2]]), True)
        self.assertIs(Reply("a", "", [1, [2]]) == Reply("a", "", [1, (2,)]), False)
        self.assertIs(Reply("a", "", [1, [2]]) == Reply("a", "", [1, [2], 3]), False)


class Answers(unittest.TestCase):
    def replies(self, line, *due, names=NAMES):
        before = {name: shown(m.rows) for name, m in names.items()}
        found = reply_to(names, line)
        self.assertIs(type(found), Reply)
        self.assertEqual(parts(found), parts(Reply(*due)), line)
        self.assertEqual({name: shown(m.rows) for name, m in names.items()}, before)

    def defines(self, line, name, m, names=NAMES):
        """Hold that a line defines a name: what defined returns, and the reply."""
        before = dict(names)
        found = defined(names, line)
        self.assertEqual((type(found), len(found)), (tuple, 2))
        self.assertEqual(found[0], name)
        self.assertEqual(shown(found[1].rows), shown(m.rows))
        self.assertEqual(names, before)
        self.replies(line, "metric", str(m), names=names)

    def defines_nothing(self, line, *due, names=NAMES):
        self.assertIsNone(defined(names, line))
        self.replies(line, *due, names=names)

    def test_let(self):
        self.defines("let a = 2: 0 1/2; 1/2 0", "a", path([Ratio(1, 2)]), names={})
        self.defines("let line = 1: 0", "line", ONE)
        self.defines("  let  a =   " + str(ACROSS) + " ", "a", ACROSS, names={})

    def test_scaled(self):
        self.defines("scaled a line 2/3", "a", scaled(LINE, Ratio(2, 3)))
        self.defines("scaled line line 5", "line", scaled(LINE, 5))
        for text in ("0", "-1", "-2/3"):
            self.defines_nothing("scaled a line " + text, "error", "malformed")
            self.defines_nothing("scaled a one " + text, "error", "malformed")
            self.defines_nothing("scaled a none " + text, "error", "refused name")

    def test_two_metrics(self):
        self.defines("added a line turned", "a", added(LINE, path([2, 1])))
        self.defines("greater a line turned", "a", greater(LINE, path([2, 1])))
        self.defines("greater a turned line", "a", greater(LINE, path([2, 1])))
        self.defines("product a line edge", "a", product(LINE, path([3])))
        self.defines("product a edge line", "a", product(path([3]), LINE))
        self.defines("added line line line", "line", scaled(LINE, 2))
        self.defines("product a one many", "a", complete(8, 1))
        for word in ("added", "greater"):
            self.defines_nothing(word + " a line square", "error", "malformed")
            self.defines_nothing(word + " a one edge", "error", "malformed")
        self.defines_nothing("product a line line", "error", "refused large")
        self.defines_nothing("product a many edge", "error", "refused large")

    def test_linked(self):
        self.defines("linked a square", "a", single_linkage(SQUARE))
        for m in metrics(281, 2):
            self.defines("linked b a", "b", single_linkage(m), names={"a": m})

    def test_show(self):
        for name, m in NAMES.items():
            self.defines_nothing("show " + name, "metric", str(m))
        # Long numbers are shown: only lines that define are held to ten digits.
        m = path([Ratio(10 ** 12, 7)])
        self.defines_nothing("show a", "metric", str(m), names={"a": m})

    def test_names_first(self):
        for line in ("show no", "tree no", "ultra no", "cuts no", "euclid no", "splits no", "radius no", "diameter no",
                     "hyperbolicity no",
                     "isometric no line", "isometric line no", "isometric no no", "scaled a no 2", "scaled a no 0",
                     "linked a no",
                     "added a no line", "added a line no", "greater a no square", "greater a square no",
                     "product a no many",
                     "product a many no", "product a no no", "scaled no no 1", "scaled a no 100000000000"):
            self.defines_nothing(line, "error", "refused name")
        self.defines_nothing("show line", "error", "refused name", names={})

    def test_papers(self):
        texts = []
        for m in [*NAMES.values(), *all_kinds(282, 1)]:
            for word, make in MAKERS.items():
                paper = make(m)
                text = "yes" if paper[0] in YES else "no"
                self.defines_nothing(word + " a", word, text, paper, names={"a": m})
                texts.append((word, text))
            paper = split_paper(m)
            self.defines_nothing("splits a", "number", str(len(paper[1])), paper, names={"a": m})
        self.assertEqual(len(set(texts)), 8)

    def test_isometric(self):
        self.defines_nothing("isometric line turned", "isometric", "yes", ("isometric", (2, 1, 0)))
        self.defines_nothing("isometric line line", "isometric", "yes", ("isometric", (0, 1, 2)))
        self.defines_nothing("isometric square levels", "isometric", "no", ("unlike",))
        self.defines_nothing("isometric line square", "isometric", "no", ("sizes",))
        self.defines_nothing("isometric one one", "isometric", "yes", ("isometric", (0,)))

    def test_told_papers(self):
        self.defines_nothing("tree square", "tree", "no", ("points", 0, 1, 2, 3))
        self.defines_nothing("tree line", "tree", "yes", ("tree", 3, ((0, 1, q(1)), (1, 2, q(2)))))
        self.defines_nothing("ultra line", "ultra", "no", ("points", 0, 1, 2))
        self.defines_nothing("ultra one", "ultra", "yes", ("levels", ()))
        self.defines_nothing("splits one", "number", "0", ("splits", (), ((q(0),),)))

    def test_numbers(self):
        for m in [*NAMES.values(), *metrics(283, 2)]:
            for word, measure in MEASURES.items():
                self.defines_nothing(word + " a", "number", str(measure(m)), names={"a": m})
        self.defines_nothing("radius line", "number", "2")
        self.defines_nothing("diameter line", "number", "3")
        self.defines_nothing("hyperbolicity square", "number", "1")
        self.defines_nothing("radius a", "number", "1/2", names={"a": path([Ratio(1, 2)])})

    def test_nothing(self):
        for line in ("", "   ", "#", "# tree no", "#let a = 1: 0"):
            self.defines_nothing(line, "done")

    def test_no_lines(self):
        for line in NO_LINES:
            if line != "":
                self.defines_nothing(line, "error", "text")
                self.defines_nothing(line, "error", "text", names={})

    def test_ten_digits(self):
        most, less = 10 ** 10 - 1, 10 ** 10 - 2
        names = {"a": path([most]), "b": path([Ratio(1, most)]), "c": path([10 ** 5]), "d": path([Ratio(1, 10 ** 5)]),
                 "e": path([1, most - 1]), "f": path([1]), "g": complete(3, most)}
        self.defines("let x = 2: 0 9999999999; 9999999999 0", "x", path([most]), names=names)
        self.defines("let x = 2: 0 9999999998/9999999999; 9999999998/9999999999 0", "x", path([Ratio(less, most)]),
                     names=names)
        self.defines("scaled x f 9999999999", "x", path([most]), names=names)
        self.defines("scaled x f 1/9999999999", "x", path([Ratio(1, most)]), names=names)
        self.defines("scaled x c 99999", "x", path([99999 * 10 ** 5]), names=names)
        self.defines("scaled x f 9999999999/7", "x", path([Ratio(most, 7)]), names=names)
        self.defines("linked x g", "x", complete(3, most), names=names)
        self.defines("linked x e", "x", single_linkage(path([1, most - 1])), names=names)
        self.defines("added x a a", "x", path([less]), names={"a": path([less // 2])})
        refused = ("error", "refused digits")
        for line in ("let x = 2: 0 10000000000; 10000000000 0", "let x = 2: 0 1/10000000000; 1/10000000000 0",
                     "let x = 3: 0 1 9999999999; 1 0 10000000000; 9999999999 10000000000 0", "scaled x f 10000000000",
                     "scaled x f 1/10000000000", "scaled x c 100000", "scaled x d 1/100000", "scaled x a 2",
                     "scaled x b 1/2",
                     "added x a f", "added x a a", "added x b d", "product x a f", "product x e f", "product x a b",
                     "scaled x a 1/10000000001", "scaled x f 99999999999/11"):
            self.defines_nothing(line, *refused, names=names)
        # What a chapter raises comes first.
        self.defines_nothing("added x a e", "error", "malformed", names=names)
        self.defines_nothing("product x e g", "error", "refused large", names=names)

    def test_metrics_with_long_numbers(self):
        # These cannot be defined by lines, but they may stand in a dict.
        names = {"a": path([10 ** 10]), "b": path([Ratio(1, 10 ** 10)]), "f": path([1])}
        for line in ("linked x a", "linked x b", "greater x a f", "greater x f a", "scaled x a 1"):
            self.defines_nothing(line, "error", "refused digits", names=names)
        self.defines("greater x f b", "x", path([1]), names=names)
        self.defines("scaled x a 1/10", "x", path([10 ** 9]), names=names)
        self.defines_nothing("diameter a", "number", "10000000000", names=names)

    def test_equal_arguments(self):
        for line in ("tree line", "cuts across", "scaled a line 2", "splits many", "euclid square", "show no"):
            self.assertEqual(parts(reply_to(NAMES, line)), parts(reply_to(dict(NAMES), line)))


class Right(unittest.TestCase):
    LINES = ("let a = 2: 0 1; 1 0", "scaled a line 2", "scaled a line 0", "added a line turned", "added a line square",
             "greater a line turned",
             "product a edge edge", "product a line many", "linked a square", "show square", "show no", "radius line",
             "diameter square",
             "hyperbolicity square", "", "# a", "tree no", "isometric no line", "splits no", "x", "tree",
             "scaled a line 99999999999")

    def right(self, line, *reply, names=NAMES):
        self.assertIs(is_right(names, (line, Reply(*reply))), True, (line, reply))

    def wrong(self, line, *reply, names=NAMES):
        self.assertIs(is_right(names, (line, Reply(*reply))), False, (line, reply))

    def test_replies_of_the_program(self):
        for line in self.LINES:
            reply = reply_to(NAMES, line)
            self.assertIs(is_right(NAMES, (line, reply)), True, line)
            kind, text, data = reply.kind, reply.text, reply.data
            for other in (("number" if kind != "number" else "metric", text, data), ("", text, data),
                          (None, text, data), (kind, text + " ", data),
                          (kind, text + "x", data), (kind, None, data), (kind, (text,), data), (kind, text, (1,)),
                          (kind, text, ((),)),
                          (kind, text, []), (kind, text, None), (kind, text, ""), (kind, text, False),
                          (kind.upper(), text, data),
                          (kind, text, nested(1, 3000)), ((kind,), text, data), ([kind], text, data)):
                self.wrong(line, *other)

    def test_papers(self):
        for m in [*NAMES.values(), *all_kinds(284, 1)]:
            names = {"a": m, "b": scaled(m, 2), "c": m, "one": ONE}
            for line in ("tree a", "ultra a", "cuts a", "euclid a", "splits a", "isometric a c", "isometric a b",
                         "isometric a one"):
                reply = reply_to(names, line)
                kind, text, data = reply.kind, reply.text, reply.data
                self.right(line, kind, text, data, names=names)
                for other in ("yes", "no", "0", "1", text + " ", "", "Yes", None, True, (text,)):
                    if other != text:
                        self.wrong(line, kind, other, data, names=names)
                for other in ("tree", "ultra", "cuts", "euclid", "number", "isometric", "splits", "error", "", None, 1,
                              (kind,)):
                    if other != kind:
                        self.wrong(line, other, text, data, names=names)
                for other in (list(data), data[:-1], data + ((),), (), None, "", True, data[0], ("points", 0, 0, 0, 0),
                              ("points", 0, 0, 0),
                              (data,), ("isometric", (0, 0)), nested(data, 3000)):
                    self.wrong(line, kind, text, other, names=names)

    def test_other_papers_that_the_checker_accepts(self):
        half = q("1/2")
        self.right("tree edge", "tree", "yes", ("tree", 3, ((0, 2, q(1)), (1, 2, q(2)))))
        self.right("tree square", "tree", "no", ("points", 3, 2, 1, 0))
        self.right("ultra line", "ultra", "no", ("points", 2, 1, 0))
        self.right("ultra edge", "ultra", "yes", ("levels", ((q(1), (0, 1)), (q(3), (1, 1)))))
        self.right("cuts line", "cuts", "yes", ("cuts", (((2,), q(2)), ((1, 2), half), ((1, 2), half))))
        values = tuple(q(number) for number in (2, -2, -2, -2, -2, -2, -2, 2, 2, 2))
        self.right("cuts across", "cuts", "no", ("functional", values))
        self.right("euclid line", "euclid", "yes", ("euclid", ((half,), (q("3/2"),)), (q(4),)))
        self.right("euclid square", "euclid", "no", ("vector", (q(2), q(-1), q(2))))
        self.right("isometric square square", "isometric", "yes", ("isometric", (3, 2, 1, 0)))
        for line, *reply in (
            ("tree edge", "tree", "no", ("tree", 3, ((0, 2, q(1)), (1, 2, q(2))))),
            ("tree square", "tree", "yes", ("points", 3, 2, 1, 0)),
            ("ultra line", "ultra", "yes", ("points", 2, 1, 0)), ("cuts across", "cuts", "yes", ("functional", values)),
            ("euclid square", "euclid", "yes", ("vector", (q(2), q(-1), q(2)))),
            ("isometric square square", "isometric", "no", ("isometric", (3, 2, 1, 0))),
            ("isometric square square", "isometric", "yes", ("isometric", (2, 3, 1, 0))),
            ("isometric line turned", "isometric", "no", ("unlike",)),
            ("isometric line square", "isometric", "no", ("unlike",)),
            ("isometric square levels", "isometric", "no", ("sizes",)),
            ("isometric square levels", "isometric", "yes", ("unlike",)),
            ("tree square", "tree", "no", ("points", 0, 1, 2, 2)), ("ultra line", "ultra", "no", ("points", 0, 2, 1)),
        ):
            self.wrong(line, *reply)

    def test_the_number_of_parts(self):
        paper = split_paper(SQUARE)
        self.right("splits square", "number", "2", paper)
        for text in ("1", "3", "02", "2 ", "", "two", 2, None):
            self.wrong("splits square", "number", text, paper)
        self.wrong("splits square", "splits", "2", paper)
        self.wrong("splits square", "number", "1", (paper[0], paper[1][:1], paper[2]))

    def test_names_that_are_not_defined(self):
        for line in ("tree no", "ultra no", "cuts no", "euclid no", "splits no", "isometric no line",
                     "isometric line no"):
            self.right(line, "error", "refused name")
            self.wrong(line, "error", "refused name", ("points", 0, 1, 2, 3))
            self.wrong(line, "error", "text")
            self.wrong(line, "tree", "no", ("points", 0, 1, 2, 3))
        self.right("tree line", "error", "refused name", names={})
        self.wrong("tree line", "error", "refused name")
        self.wrong("tree line", *("tree", "yes", tree_paper(LINE)), names={})

    def test_lines_that_have_no_form(self):
        for line in NO_LINES:
            if line != "":
                self.right(line, "error", "text")
                self.wrong(line, "error", "malformed")
                self.wrong(line, "done")
                self.wrong(line, "error", "text", (1,))
                self.wrong(line, "tree", "yes", tree_paper(LINE))

    def test_every_value_that_is_no_entry(self):
        reply = Reply("done")
        for entry in OTHERS + [0, 1, "", Ratio(1), LINE, reply, [], ["", reply], ("", reply, 1), ("", reply, ()), ("",),
                               (reply,), (reply, ""), ("", ""),
                               ("", ("done", "", ())), ("", None), ("", [reply]), ("", (reply,)), (("", reply),),
                               ("tree line", tree_paper(LINE)),
                               ("", "done"), ((), ()), nested(reply, 3000), (reply, reply, reply)]:
            self.assertIs(is_right(NAMES, entry), False, entry)
            self.assertIs(is_right({}, entry), False, entry)
        self.assertIs(is_right({}, ("", reply)), True)
        self.assertIs(is_right({}, (reply, Reply("error", "text"))), True)

    def test_names_stay_the_same(self):
        names = {"a": LINE}
        for line in ("let a = 1: 0", "let b = 1: 0", "scaled a a 2", "tree a", "show b"):
            entry = (line, reply_to(names, line))
            before = parts(entry[1])
            self.assertIs(is_right(names, entry), True)
            self.assertIs(is_right(names, entry), True)
            self.assertEqual(parts(entry[1]), before)
            defined(names, line)
            self.assertEqual(list(names), ["a"])
            self.assertEqual(str(names["a"]), str(LINE))


class Other(unittest.TestCase):
    def test_no_error_leaves_a_reply(self):
        random = seeded(285)
        words = ["let", "scaled", "added", "greater", "product", "linked", "show", "tree", "isometric", "splits",
                 "radius", "line", "square", "no",
                 "=", "1: 0", "2", "-1", "0", "#", "1/3", "many", "edge", "  "]
        for _ in range(600):
            line = " ".join(random.choices(words, k=random.randint(1, 5)))
            try:
                reply = reply_to(NAMES, line)
                self.assertIs(is_right(NAMES, (line, reply)), True)
                self.assertEqual(defined(NAMES, line) is None, reply.kind != "metric" or line.split()[0] == "show")
            except Fault:
                self.fail(line)

    def test_told_star(self):
        reply = reply_to({"a": star([1, 1, 1, 1])}, "splits a")
        self.assertEqual((reply.kind, reply.text), ("number", "4"))


if __name__ == "__main__":
    unittest.main()
