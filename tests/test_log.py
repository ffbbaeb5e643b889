import unittest

from metricparts.build import complete, cycle, path
from metricparts.console import Console
from metricparts.errors import NoText
from metricparts.log import first_wrong, read_data, read_log, write_data, write_log
from metricparts.metric import Metric
from metricparts.ratio import Ratio
from metricparts.replies import Reply, is_right, reply_to
from metricparts.tree import Tree
from tests.helper import MALFORMED, OTHERS, q, raised, seeded, shown

NONE = (NoText, 0)
ONE = Metric([[0]])
TALL = 10 ** 1999
# Plain data and their written forms.
TOLD = [
    (0, "0"), (7, "7"), (-7, "-7"), (1234567890123, "1234567890123"), ("a", "a"), ("q", "q"),
    ("abcdefghijkl", "abcdefghijkl"),
    ("zzzzzzzzzzzz", "zzzzzzzzzzzz"), (Ratio(0), "q0"), (Ratio(5), "q5"), (Ratio(-5), "q-5"), (Ratio(1, 2), "q1/2"),
    (Ratio(-4, 6), "q-2/3"),
    ((), "()"), (((),), "(())"), (((), ()), "(() ())"), ((1,), "(1)"), ((1, "a", Ratio(1, 2)), "(1 a q1/2)"),
    (("q", (Ratio(1), (-1, ("qq",)), ()), 0), "(q (q1 (-1 (qq)) ()) 0)"), (TALL, "1" + "0" * 1999),
    (-TALL, "-1" + "0" * 1999),
    (10 * TALL - 1, "9" * 2000), (1 - 10 * TALL, "-" + "9" * 2000), (Ratio(TALL), "q1" + "0" * 1999),
    (Ratio(1, TALL), "q1/1" + "0" * 1999),
    (Ratio(1 - 10 * TALL, TALL), "q-" + "9" * 2000 + "/1" + "0" * 1999),
    ((TALL, (Ratio(TALL, 3),)), "(1" + "0" * 1999 + " (q1" + "0" * 1999 + "/3))"),
]


def nested(value, many):
    """Return a value in so many tuples."""
    for _ in range(many):
        value = (value,)
    return value


def random_data(random, depth):
    """Return some plain data with tuples of at most this depth."""
    kind = random.randrange(6 if depth else 3)
    if kind == 0:
        return random.choice((0, 1, -1, random.randint(-10 ** 30, 10 ** 30)))
    if kind == 1:
        return "".join(random.choices("abcqxyz", k=random.randint(1, 12)))
    if kind == 2:
        return Ratio(random.randint(-99, 99), random.randint(1, 99))
    return tuple(random_data(random, depth - 1) for _ in range(random.randrange(4)))


class Data(unittest.TestCase):
    def test_told_examples(self):
        for data, text in TOLD:
            self.assertEqual(write_data(data), text)
            self.assertEqual(shown(read_data(text)), shown(data))

    def test_random_data(self):
        random = seeded(301)
        for _ in range(300):
            data = random_data(random, 5)
            before = shown(data)
            text = write_data(data)
            self.assertIs(type(text), str)
            self.assertEqual(shown(read_data(text)), before)
            self.assertEqual(shown(data), before)

    def test_depth(self):
        for inner in ((), (1,), ("a", Ratio(1, 2)), (1, 2, 3)):
            for many in (0, 1, 5, 18, 19):
                data = nested(inner, many)
                text = "(" * many + write_data(inner) + ")" * many
                self.assertEqual(write_data(data), text)
                self.assertEqual(shown(read_data(text)), shown(data))
            for many in (20, 21, 50, 400, 5000):
                self.assertEqual(raised(write_data, nested(inner, many)), MALFORMED)
                self.assertEqual(raised(read_data, "(" * many + write_data(inner) + ")" * many), NONE)
        # It is the depth of the deepest place that counts, wherever it is.
        good, bad = nested((), 18), nested((), 19)
        for before, behind in (((), ()), ((1, 2), ()), ((), ("a",)), (((),), ((), ()))):
            for inner, text in ((good, "(" * 19 + ")" * 19), (bad, "(" * 20 + ")" * 20)):
                whole = (*before, inner, *behind)
                told = "(" + " ".join([*map(write_data, before), text, *map(write_data, behind)]) + ")"
                if inner is good:
                    self.assertEqual(write_data(whole), told)
                    self.assertEqual(shown(read_data(told)), shown(whole))
                else:
                    self.assertEqual(raised(write_data, whole), MALFORMED)
                    self.assertEqual(raised(read_data, told), NONE)

    def test_other_values(self):
        bad = [True, False, None, "", "A", "aB", "a1", "1", "a b", "a ", " a", "abcdefghijklm", "z" * 100, "\u00e4",
               "\u03b1", "a\n", "-", "(", ")", "()",
               [], [1], ["a"], [Ratio(1)], ONE, path([1, 2]), Tree(1, []), Reply("a"), NoText(0), [()], "q1", "a_b"]
        for value in bad:
            for data in (value, (value,), (1, value), (value, "a"), ((), (value,)), nested(value, 19),
                         nested(value, 20)):
                self.assertEqual(raised(write_data, data), MALFORMED, value)
        for value in OTHERS:
            # Of these some are plain data.
            good = shown(value) in [shown(data) for data in ("a", (), (1,), (1, 2), (Ratio(1), Ratio(2)), ((),))]
            self.assertEqual(raised(write_data, value), None if good else MALFORMED, value)

    def test_too_many_digits(self):
        for text in ("1" + "0" * 2000, "-1" + "0" * 2000, "9" * 2001, "-" + "9" * 2001):
            self.assertEqual(raised(read_data, text), NONE)
            self.assertEqual(raised(read_data, "(a " + text + ")"), NONE)
        for number in (10 * TALL, -10 * TALL, 100 * TALL - 1):
            self.assertEqual(raised(write_data, number), MALFORMED)
            self.assertEqual(raised(write_data, ("a", number)), MALFORMED)

    def test_texts_that_have_none(self):
        for text in (
            # Spaces.
            "", " ", "  ", " 1", "1 ", " a", "a ", "( )", "(1 )", "( 1)", "(1  2)", "(1 2) ", " (1 2)", "()()",
            "(1)(2)", "(1 (2)3)", "(1(2))", "((1)(2))",
            "(a(b))", "1 2", "a b", "() ()", "(1\t2)", "(1\n2)", "1\n", "\n", "(1) \n", "(\u00a01)", "(1,2)", "1,",
            "(1, 2)",
            # Parentheses.
            "(", ")", "(1", "1)", "((1)", "(1))", ")(", ")1(", "((", "))", "())", "(()", "(1 (2 3)", "(1 2) 3)", "[1]",
            "[]", "{}", "(1]", "<>",
            # Numbers.
            "01", "-0", "-01", "00", "+1", "1.5", "1e3", "1/2", "3/1", "--1", "-", "- 1", "1_0", "0x1", "\u0661",
            "\u00b2", "1-", "5/", "-1/2",
            "q2/4", "q01", "q-0", "q+1", "q1/1", "q0/1", "q1/0", "q1/-2", "q--1", "q1/", "q/2", "q1/2/3", "q 1",
            "q1 /2", "Q1", "qq1", "q1.5", "q-", "q0/2",
            "q1/02", "q-2/4", "q\u0661", "1q", "q1q", "qa1", "q1/2a",
            # Labels.
            "abcdefghijklm", "A", "aB", "a1", "a_b", "a-b", "a.b", "\u00e4", "a/b", "'a'", "=", "#", "True", "None",
            "abcdefghijklmnopqrstuvwxyz",
        ):
            self.assertEqual(raised(read_data, text), NONE, text)
            # In parentheses those that are several written forms are those of a tuple.
            due = None if text in ("", "1 2", "a b", "() ()", "q 1") else NONE
            self.assertEqual(raised(read_data, "(" + text + ")"), due, text)

    def test_texts_of_one_changed_character(self):
        random = seeded(302)
        read = 0
        for _ in range(60):
            text = write_data(random_data(random, 3))
            for at in range(min(len(text), 40)):
                for sign in (" ", "(", ")", "1", "0", "-", "/", "q", "a", "\n", ""):
                    other = text[:at] + sign + text[at + 1:]
                    fault = raised(read_data, other)
                    if fault is None:
                        self.assertEqual(write_data(read_data(other)), other)
                        read += 1
                    else:
                        self.assertEqual(fault, NONE)
        self.assertGreater(read, 100)

    def test_values_that_are_no_text(self):
        for value in OTHERS + [0, 1, Ratio(1), ONE, ["1"], ("1",), b"1", 10 ** 30]:
            if not isinstance(value, str):
                self.assertEqual(raised(read_data, value), NONE)
                self.assertEqual(raised(read_log, value), NONE)

    def test_long_texts(self):
        data = tuple(range(-300, 300)) + (("a",) * 300,)
        self.assertEqual(shown(read_data(write_data(data))), shown(data))
        for text in ("(" * 10000, ")" * 10000, "()" * 5000, "(" * 10000 + ")" * 10000, "( " * 5000, "1 " * 5000):
            self.assertEqual(raised(read_data, text), NONE)


def entries_of(*lines):
    """Return the list of the entries of a console into which the lines are entered."""
    console = Console()
    for line in lines:
        console.enter(line)
    return list(console)


LINES = ("let a = 3: 0 1 2; 1 0 2; 2 2 0", "ultra a", "tree a", "", "scaled b a 1/3", "cuts b", "# done", "euclid b",
         "show no", "isometric a b",
         "splits a", "hyperbolicity a", "nothing of this", "  ")


class Logs(unittest.TestCase):
    def test_told_examples(self):
        self.assertEqual(write_log([]), "")
        self.assertEqual(read_log(""), [])
        entries = [("tree a", Reply("tree", "no", ("points", 0, 1, 2, 3))), ("", Reply("done")),
                   ("x", Reply("error", "refused name"))]
        text = "> tree a\n= tree no\n# (points 0 1 2 3)\n> \n= done \n# ()\n> x\n= error refused name\n# ()\n"
        self.assertEqual(write_log(entries), text)
        found = read_log(text)
        self.assertIs(type(found), list)
        self.assertTrue(all(type(entry) is tuple and type(entry[1]) is Reply for entry in found))
        self.assertEqual(found, entries)

    def test_lines_and_texts_of_any_signs(self):
        for line in ("", " ", "> x", "= done ", "# ()", "\t", "\r", "\x0b\x0c\x1c\x1d\x1e\x85\u2028\u2029",
                     "\u00e9 \U0001f600", "x" * 5000, "  a  ", "\\n"):
            for kind in ("a", "abcdefghijkl", "done"):
                for data in ((), (1,), (("a", Ratio(-1, 2)), ()), nested((), 19)):
                    entries = [(line, Reply(kind, line, data)), (line, Reply(kind, "", data))]
                    text = write_log(entries)
                    due = [f"> {line}\n= {kind} {told}\n# {write_data(data)}\n" for told in (line, "")]
                    self.assertEqual(text, "".join(due))
                    self.assertEqual(read_log(text), entries)
                    self.assertEqual(shown(read_log(text)[0][1].data), shown(data))

    def test_entries_of_a_console(self):
        entries = entries_of(*LINES)
        text = write_log(entries)
        self.assertEqual(read_log(text), entries)
        self.assertEqual(write_log(read_log(text)), text)
        self.assertEqual(text.count("\n"), 3 * len(LINES))

    def test_entries_that_cannot_be_written(self):
        good = ("", Reply("done"))
        reply = Reply("done", "t", (1,))
        bad = [value for value in OTHERS if value != ""] + [
            # No pairs, or lists.
            (), ("",), (reply,), ("", reply, ""), ["", reply], (reply, ""), "", reply, ("", ("done", "", ())),
            ("", None), ("", "done"), ("", [reply]),
            # The line.
            (None, reply), (1, reply), (True, reply), (("",), reply), (["a"], reply), ("\n", reply), ("a\nb", reply),
            ("a\n", reply), (reply, reply),
            # The kind: no label.
            *[("", Reply(kind, "t", (1,))) for kind in ("", "A", "a b", "a1", "abcdefghijklm", "a\n", " a", None, True,
                                                        1, ("a",), ["a"], Ratio(1), "\u00e4")],
            # The text.
            *[("", Reply("done", text)) for text in (None, True, 1, "\n", "a\nb", "a\n", ("a",), ["a"], Ratio(1),
                                                     reply)],
            # The data: no tuple, or no plain data in it.
            *[("", Reply("done", "", data)) for data in (None, True, 1, "", "a", [], [1], Ratio(1), reply, (None,),
                                                         (True,), ("",), ("A",), ([],), (1, [1]),
                                                         ("abcdefghijklm",), (ONE,), ((False,),), (reply,),
                                                         nested((), 20), nested(1, 21), nested(1, 3000))],
        ]
        for entry in bad:
            for entries in ([entry], [good, entry], [entry, good], [good, good, entry, good]):
                self.assertEqual(raised(write_log, entries), MALFORMED, shown(entry))
        self.assertEqual(write_log([("", Reply("done", "", nested((), 19)))]),
                         "> \n= done \n# " + "(" * 20 + ")" * 20 + "\n")

    def test_the_list_stays_the_same(self):
        entries = entries_of(*LINES)
        before = list(entries)
        self.assertEqual(write_log(entries), write_log(list(entries)))
        first_wrong(entries)
        self.assertEqual(entries, before)

    def test_spoilt_lines(self):
        text = "> tree a\n= tree no\n# (points 0 1 2 3)\n> \n= done \n# ()\n> x\n= error text\n# (1)\n"
        lines = text.split("\n")[:-1]
        others = {
            0: ["", " ", ">", ">x", "x", "= tree no", "# ()", " > x", "tree a", "<  x", "=> x"],
            1: ["", "=", "= ", "=  ", "= done", "= done1 x", "=done x", "= Done x", "=  done x", "= abcdefghijklm x",
                "done x", "> x", "# ()", " = done x",
                "= \u00e4 x", "= do-ne x", "= 1 x", "=\tdone x", "= done\tx"],
            2: ["", "#", "# ", "#()", "()", "# ( )", "# (1 )", "# 1", "# a", "# q1/2", "# (01)", "# ()()", "# () ",
                "#  ()", "> x", "= done x", "# (", "# )",
                "# (q2/4)", "# (A)", " # ()", "# ()\r", "# " + "(" * 21 + ")" * 21, "# (abcdefghijklm)", "# [1]",
                "# None", "# (-0)"],
        }
        for at in range(9):
            for line in others[at % 3]:
                for more in ("", "> y\n", "x\n", "\n"):
                    spoilt = "\n".join(lines[:at] + [line] + lines[at + 1:]) + "\n" + more
                    self.assertEqual(raised(read_log, spoilt), (NoText, at), spoilt)
                # Also as the last line, and without a line feed behind it.
                self.assertEqual(raised(read_log, "\n".join(lines[:at] + [line]) + "\n"), (NoText, at))
                self.assertEqual(raised(read_log, "\n".join(lines[:at] + [line])),
                                 (NoText, at) if (line, at % 3) != ("", 0) else None)

    def test_the_first_spoilt_line_is_told(self):
        text = "> a\n= done \n# ()\n"
        self.assertEqual(raised(read_log, "x\ny\nz\n"), (NoText, 0))
        self.assertEqual(raised(read_log, text + "> a\ny\nz\n"), (NoText, 4))
        self.assertEqual(raised(read_log, text + "> a\n= done \nz\nx"), (NoText, 5))
        self.assertEqual(raised(read_log, text + text + "x\n"), (NoText, 6))
        self.assertEqual(raised(read_log, text + "\n" + text), (NoText, 3))
        self.assertEqual(raised(read_log, "\n" + text), (NoText, 0))
        self.assertEqual(raised(read_log, "\n"), (NoText, 0))

    def test_endings(self):
        text = "> tree a\n= tree no\n# (points 0 1 2 3)\n> \n= done \n# ()\n"
        for at in range(len(text) + 1):
            part = text[:at]
            feeds = part.count("\n")
            whole = part == "" or (part.endswith("\n") and feeds % 3 == 0)
            self.assertEqual(raised(read_log, part), None if whole else (NoText, feeds), part)
        self.assertEqual(raised(read_log, text + " "), (NoText, 6))
        self.assertEqual(raised(read_log, text + "> x"), (NoText, 6))
        self.assertEqual(raised(read_log, text + "> x\n"), (NoText, 7))
        self.assertEqual(raised(read_log, text + "> x\n= done \n"), (NoText, 8))
        self.assertEqual(raised(read_log, text + "> x\n= done \n# ()"), (NoText, 8))
        self.assertEqual(raised(read_log, text.replace("\n", "\r\n")), (NoText, 2))
        self.assertEqual(raised(read_log, text.replace("\n", "\r")), (NoText, 0))


class Wrong(unittest.TestCase):
    def test_none(self):
        self.assertEqual(first_wrong([]), -1)
        self.assertEqual(first_wrong(entries_of(*LINES)), -1)
        self.assertEqual(first_wrong([("x", Reply("error", "text")), (None, Reply("error", "text"))]), -1)
        # Another paper that is accepted.
        entries = entries_of("let a = " + str(cycle([1, 1, 1, 1])), "tree a", "show a")
        entries[1] = ("tree a", Reply("tree", "no", ("points", 3, 2, 1, 0)))
        self.assertEqual(first_wrong(entries), -1)

    def test_a_wrong_entry(self):
        entries = entries_of(*LINES)
        for at, (line, reply) in enumerate(entries):
            for other in ((line, Reply(reply.kind, reply.text + "x", reply.data)),
                          (line, Reply("x", reply.text, reply.data)), (line, None), None, line, reply,
                          (line, Reply(reply.kind, reply.text, reply.data + (1,))), [line, reply], (line,),
                          (line, reply, reply), (reply, line)):
                self.assertEqual(first_wrong(entries[:at] + [other] + entries[at + 1:]), at)
                # Also if others behind it are wrong.
                self.assertEqual(first_wrong(entries[:at] + [other, None, other]), at)

    def test_items_of_any_values(self):
        for value in OTHERS + [0, 1, -1, Ratio(1), ONE, Reply("done"), [], [[]], ["", Reply("done")], {},
                               nested((), 3000)]:
            self.assertEqual(first_wrong([value]), 0)
            self.assertEqual(first_wrong([("", Reply("done")), value]), 1)
            self.assertEqual(first_wrong([(value, Reply("error", "text"))]), 0 if value == "" else -1)
            self.assertEqual(first_wrong([("", value)]), -1 if value == Reply("done") else 0)

    def test_definitions_of_earlier_lines(self):
        one, two = path([1]), path([1, 2])
        first = ("let a = " + str(one), Reply("metric", str(one)))
        second = ("let a = " + str(two), Reply("metric", str(two)))
        shows = [("show a", Reply("metric", str(m))) for m in (one, two)]
        missing = ("show a", Reply("error", "refused name"))
        self.assertEqual(first_wrong([missing, first, shows[0], second, shows[1]]), -1)
        self.assertEqual(first_wrong([shows[0], first]), 0)
        self.assertEqual(first_wrong([first, missing]), 1)
        self.assertEqual(first_wrong([first, shows[1]]), 1)
        self.assertEqual(first_wrong([first, second, shows[0]]), 2)
        # A line that is an error leaves the definitions.
        fault = ("scaled a a 0", Reply("error", "malformed"))
        self.assertEqual(first_wrong([first, fault, shows[0]]), -1)
        digits = ("scaled a a 10000000000", Reply("error", "refused digits"))
        self.assertEqual(first_wrong([first, digits, shows[0]]), -1)
        # A name may be defined by itself.
        doubled = ("scaled a a 2", Reply("metric", str(path([2]))))
        self.assertEqual(first_wrong([first, doubled, ("show a", Reply("metric", str(path([2]))))]), -1)
        self.assertEqual(first_wrong([first, doubled, shows[0]]), 2)
        self.assertEqual(first_wrong([first, doubled, ("scaled a a 1/2", Reply("metric", str(one))), shows[0]]), -1)

    def test_against_is_right(self):
        entries = entries_of(*LINES)
        names = {"a": Metric([[0, 1, 2], [1, 0, 2], [2, 2, 0]])}
        for line in ("show a", "tree a", "splits a"):
            entry = (line, reply_to(names, line))
            self.assertIs(is_right(names, entry), True)
            self.assertEqual(first_wrong([entry]), 0)
            self.assertEqual(first_wrong([entries[0], entry]), -1)
        self.assertEqual(first_wrong([("show b", Reply("metric", str(complete(2, 1))))]), 0)
        self.assertEqual(shown(q(1)), shown(Ratio(1)))


if __name__ == "__main__":
    unittest.main()
