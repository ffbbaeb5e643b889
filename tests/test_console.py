import unittest

from metricparts.build import cycle, path, scaled
from metricparts.console import Console
from metricparts.errors import Refused
from metricparts.log import first_wrong, read_log, write_log
from metricparts.metric import Metric
from metricparts.ratio import Ratio
from metricparts.replies import Reply, reply_to
from tests.helper import metrics, raised, seeded, shown

FULL = (Refused, "lines")
LINES = (
    "let a = 4: 0 1 2 1; 1 0 1 2; 2 1 0 1; 1 2 1 0", "let line = 3: 0 1 3; 1 0 2; 3 2 0", "scaled b a 2/3",
    "added c a b", "greater d a c",
    "let e = 2: 0 1; 1 0", "product f e line", "linked g line", "show f", "tree a", "tree line", "ultra g", "ultra a",
    "cuts f", "euclid line",
    "euclid a", "isometric a b", "isometric a a", "isometric a line", "splits c", "radius f", "diameter f",
    "hyperbolicity a", "", "# a line",
    "   ", "nothing", "tree no", "scaled x a 0", "product x a line", "added x a line", "scaled x a 10000000000",
    "let x = 2: 0 1",
    "let a = 1: 0", "tree a", "\t", "\u00e9", "x" * 3000,
)


def parts(reply):
    """Return the kind, the text and the data of a reply."""
    return shown((reply.kind, reply.text, reply.data))


def state(console):
    """Return what a console tells of itself."""
    return len(console), list(console), {name: str(m) for name, m in console.names().items()}, console.log()


class Entering(unittest.TestCase):
    def test_told_examples(self):
        console = Console()
        self.assertEqual(console.enter("let a = 3: 0 1 2; 1 0 2; 2 2 0").kind, "metric")
        self.assertEqual(console.enter("ultra a").text, "yes")

    def test_a_new_console(self):
        console = Console()
        self.assertEqual(state(console), (0, [], {}, ""))
        self.assertIs(type(console.names()), dict)

    def test_each_kind_of_line(self):
        console = Console()
        due, kinds = [], set()
        for line in LINES:
            names = console.names()
            reply = console.enter(line)
            self.assertIs(type(reply), Reply)
            self.assertEqual(parts(reply), parts(reply_to(names, line)))
            due.append((line, reply))
            self.assertEqual(len(console), len(due))
            self.assertEqual(list(console), due)
            self.assertEqual(console.log(), write_log(due))
            kinds.add(reply.kind)
        self.assertEqual(kinds, {"metric", "tree", "ultra", "cuts", "euclid", "isometric", "number", "done", "error"})
        texts = {reply.text for _, reply in console if reply.kind == "error"}
        self.assertEqual(texts, {"text", "malformed", "refused name", "refused large", "refused digits"})

    def test_entries(self):
        console = Console()
        for line in LINES:
            console.enter(line)
        found = list(console)
        self.assertTrue(all(type(entry) is tuple and len(entry) == 2 for entry in found))
        self.assertEqual([line for line, _ in console], list(LINES))
        self.assertEqual(found, list(console))
        self.assertEqual(tuple(console), tuple(found))
        for entry, other in zip(console, found):
            self.assertIs(entry == other, True)
        found.clear()
        self.assertEqual(len(list(console)), len(LINES))

    def test_definitions(self):
        console = Console()
        console.enter("let a = " + str(path([1, 2])))
        self.assertEqual({name: str(m) for name, m in console.names().items()}, {"a": str(path([1, 2]))})
        self.assertTrue(all(type(m) is Metric for m in console.names().values()))
        console.enter("scaled b a 2")
        self.assertIs(console.names()["b"] == path([2, 4]), True)
        # A later definition is in the place of an earlier one, also one by the name itself.
        console.enter("scaled a a 1/2")
        self.assertIs(console.names()["a"] == scaled(path([1, 2]), Ratio(1, 2)), True)
        self.assertEqual(parts(console.enter("show a")), shown(("metric", str(path([Ratio(1, 2), 1])), ())))
        self.assertIs(console.names()["b"] == path([2, 4]), True)
        console.enter("let b = 1: 0")
        self.assertEqual({name: str(m) for name, m in console.names().items()},
                         {"a": str(path([Ratio(1, 2), 1])), "b": "1: 0"})

    def test_no_definition_after_an_error(self):
        console = Console()
        console.enter("let a = " + str(path([1, 2])))
        console.enter("let e = 2: 0 1; 1 0")
        before = {name: str(m) for name, m in console.names().items()}
        for line in ("scaled a a 0", "scaled x a -1", "scaled a a 10000000000", "scaled x a 1/10000000000",
                     "added a a e", "greater x a e", "product a a a",
                     "linked x no", "let a = 2: 0 0; 0 0", "let x = 2: 0 10000000000; 10000000000 0", "let x =",
                     "show a", "tree a", "splits e",
                     "isometric a e", "", "# let x = 1: 0", "radius a"):
            console.enter(line)
            self.assertEqual({name: str(m) for name, m in console.names().items()}, before, line)

    def test_a_new_dict_of_names_each_time(self):
        console = Console()
        console.enter("let a = 1: 0")
        first, second = console.names(), console.names()
        self.assertIsNot(first, second)
        first["b"] = path([1])
        del second["a"]
        self.assertEqual(list(console.names()), ["a"])
        self.assertEqual(console.enter("show b").text, "refused name")
        self.assertEqual(console.enter("show a").text, "1: 0")
        self.assertEqual((list(first), list(second)), (["a", "b"], []))

    def test_two_consoles(self):
        one, other = Console(), Console()
        one.enter("let a = 1: 0")
        self.assertEqual(state(other), (0, [], {}, ""))
        self.assertEqual(other.enter("show a").text, "refused name")
        self.assertEqual(len(one), 1)


class Limits(unittest.TestCase):
    def test_chosen_limits(self):
        for most in (0, 1, 2, 5):
            console = Console(most=most)
            for at in range(most):
                self.assertIsNone(raised(console.enter, ("let a = 1: 0", "nothing", "", "tree a", "show a")[at]))
            before = state(console)
            self.assertEqual(before[0], most)
            for line in ("let b = 1: 0", "let a = 2: 0 1; 1 0", "", "# x", "nothing", "show a"):
                self.assertEqual(raised(console.enter, line), FULL)
                self.assertEqual(state(console), before)

    def test_three_hundred_lines(self):
        console = Console()
        for at in range(300):
            self.assertEqual(len(console), at)
            console.enter(("", "nothing", "let a = 1: 0")[at % 3])
        before = state(console)
        self.assertEqual(raised(console.enter, ""), FULL)
        self.assertEqual(raised(console.enter, "let b = 1: 0"), FULL)
        self.assertEqual(state(console), before)
        console = Console(most=301)
        for _ in range(301):
            console.enter("")
        self.assertEqual(raised(console.enter, ""), FULL)

    def test_the_limit_is_told_by_name(self):
        with self.assertRaises(TypeError):
            Console(5)


class Logs(unittest.TestCase):
    def test_a_log_that_is_read_back(self):
        console = Console()
        for line in LINES:
            console.enter(line)
        found = read_log(console.log())
        self.assertEqual(found, list(console))
        self.assertEqual(write_log(found), console.log())
        self.assertEqual(first_wrong(found), -1)
        self.assertEqual(first_wrong(list(console)), -1)

    def test_metrics_of_many_kinds(self):
        for m in [*metrics(311, 2), cycle([1] * 8)]:
            console = Console()
            for line in ("let a = " + str(m), "scaled b a 3/7", "tree a", "ultra a", "cuts a", "euclid b", "splits b",
                         "isometric a b", "isometric a a",
                         "linked a a", "ultra a", "hyperbolicity b", "radius b", "diameter a", "show b"):
                self.assertNotEqual(console.enter(line).kind, "error")
            found = read_log(console.log())
            self.assertEqual(found, list(console))
            self.assertEqual(first_wrong(found), -1)
            # Without the definition the first line that needs it is wrong.
            self.assertEqual(first_wrong(found[1:]), 0)

    def test_long_numbers(self):
        # Ten digits in each place, and all denominators unlike.
        random = seeded(312)
        for n in (4, 6):
            items = [[Ratio(9000000000 + random.randrange(10 ** 8),
                            8000000000 + random.randrange(10 ** 8)) for _ in range(n)] for _ in range(n)]
            m = Metric([[0 if x == y else items[min(x, y)][max(x, y)] for y in range(n)] for x in range(n)])
            console = Console()
            for line in ("let a = " + str(m), "tree a", "ultra a", "cuts a", "euclid a", "splits a", "isometric a a",
                         "linked b a", "hyperbolicity a"):
                self.assertNotEqual(console.enter(line).kind, "error")
            self.assertEqual(first_wrong(read_log(console.log())), -1)

    def test_random_lines(self):
        random = seeded(313)
        words = ["let a = 2: 0 1; 1 0", "let b = 3: 0 1 3; 1 0 2; 3 2 0", "scaled a b 1/2", "scaled b a 3",
                 "scaled c a 0", "product c a b", "product c a a",
                 "linked c b", "added b b b", "added c a b", "greater c c c", "show c", "tree c", "ultra b", "cuts c",
                 "euclid c", "isometric a c", "splits c",
                 "radius b", "", "#", "x"]
        for _ in range(12):
            console = Console(most=40)
            for _ in range(40):
                console.enter(random.choice(words))
            self.assertEqual(raised(console.enter, ""), FULL)
            found = read_log(console.log())
            self.assertEqual(found, list(console))
            self.assertEqual(first_wrong(found), -1)


if __name__ == "__main__":
    unittest.main()
