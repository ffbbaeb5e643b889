import unittest

from metricparts.build import complete, path
from metricparts.errors import NoText
from metricparts.metric import Metric, read_metric
from metricparts.ratio import Ratio
from metricparts.sheet import read_line
from tests.helper import OTHERS, q, raised, shown

NONE = (NoText, 0)
ONE_NAME = ("show", "tree", "ultra", "cuts", "euclid", "splits", "radius", "diameter", "hyperbolicity")
TWO_NAMES = ("linked", "isometric")
THREE_NAMES = ("added", "greater", "product")
TEXT = "2: 0 1/2; 1/2 0"


def plain(command):
    """Return a command with metrics as their texts, and kinds told."""
    return shown(tuple(("metric", str(part)) if isinstance(part, Metric) else part for part in command))


class Lines(unittest.TestCase):
    def reads(self, line, *command):
        found = read_line(line)
        self.assertIs(type(found), tuple)
        self.assertEqual(plain(found), plain(command), line)

    def refuses(self, *lines):
        for line in lines:
            self.assertEqual(raised(read_line, line), NONE, line)

    def test_each_form(self):
        self.reads("let a = " + TEXT, "let", "a", read_metric(TEXT))
        self.reads("scaled b a 2/3", "scaled", "b", "a", q("2/3"))
        for word in THREE_NAMES:
            self.reads(word + " c a b", word, "c", "a", "b")
        for word in TWO_NAMES:
            self.reads(word + " a b", word, "a", "b")
            self.reads(word + " a a", word, "a", "a")
        for word in ONE_NAME:
            self.reads(word + " a", word, "a")

    def test_kinds_of_the_parts(self):
        found = read_line("let a = 1: 0")
        self.assertIsInstance(found[2], Metric)
        self.assertIs(found[2] == Metric([[0]]), True)
        found = read_line("scaled a a 3")
        self.assertIsInstance(found[3], Ratio)

    def test_nothing(self):
        for line in ("", " ", "     ", "#", "# tree a", "#tree a", "##", "# " + "x" * 1998, " " * 2000, "#!~ = let"):
            self.reads(line, "empty")
        # The first character counts, not the first token.
        self.refuses(" #", " # tree a", "  #x", "x#", "tree a #", "tree a # x")

    def test_spaces(self):
        self.reads("  tree   a  ", "tree", "a")
        self.reads(" scaled  b   a    2/3 ", "scaled", "b", "a", q("2/3"))
        self.reads("added a  b c     ", "added", "a", "b", "c")
        self.reads("   linked a b", "linked", "a", "b")
        self.reads("tree" + " " * 1995 + "a", "tree", "a")
        self.refuses("treea", "scaled b a2/3", "show\ta", "tree\u00a0a", "tree\u2003a", "tree\va", "tree a\n",
                     "\ntree a", "tree\ra")

    def test_let(self):
        due = ("let", "a", read_metric(TEXT))
        for line in ("let a = " + TEXT, " let  a  =   " + TEXT + "  ", "let a =" + " " * 900 + TEXT + " " * 900,
                     "let   a = " + TEXT):
            self.reads(line, *due)
        self.reads("let let = 1: 0", "let", "let", Metric([[0]]))
        self.reads("let abcdefgh = " + str(complete(8, Ratio(1, 7))), "let", "abcdefgh", complete(8, Ratio(1, 7)))
        # A metric of a line is as large as the line lets it be.
        self.reads("let a = 2: 0 1" + "0" * 900 + "; 1" + "0" * 900 + " 0", "let", "a", path([10 ** 900]))

    def test_other_lets(self):
        self.refuses("let", "let ", "let a", "let a =", "let a = ", "let = " + TEXT, "let a " + TEXT, "let a=" + TEXT,
                     "let a= " + TEXT, "let a =" + TEXT, "let a = = " + TEXT, "let a b = " + TEXT, "leta = " + TEXT,
                     "let  = a " + TEXT, "Let a = " + TEXT, "let A = " + TEXT, "let a1 = " + TEXT, "let a == " + TEXT,
                     "let abcdefghi = " + TEXT, "= let a " + TEXT, "a = " + TEXT, "let a = b", "let a = " + TEXT + " =",
                     "let a = " + TEXT + " # x", "let a " + TEXT + " =", "let a := " + TEXT)

    def test_texts_that_are_no_metric(self):
        for text in ("2: 0 1/2;  1/2 0", "2:0 1/2; 1/2 0", "2 : 0 1/2; 1/2 0", "2: 0 1/2 ; 1/2 0", "2: 0 1/2; 1/2 0;",
                     "3: 0 1; 1 0",
                     "2: 0 1; 2 0", "2: 0 0; 0 0", "2: 0 -1; -1 0", "2: 0 2/4; 2/4 0", "3: 0 1 3; 1 0 1; 3 1 0", "0: ",
                     "1: 1",
                     "2: 0 1.5; 1.5 0", "01: 0", "1: 00", "1:  0", "1", "1:", "x", "2: 0 1, 1 0", "2: 0 1; 1  0",
                     "1: -0",
                     "9: " + "; ".join(" ".join("0" if x == y else "1" for y in range(9)) for x in range(9))):
            self.refuses("let a = " + text)

    def test_names(self):
        for name in ("a", "z", "abcdefgh", "zzzzzzzz", "let", "tree", "empty", "show"):
            self.reads("tree " + name, "tree", name)
            self.reads("let " + name + " = 1: 0", "let", name, Metric([[0]]))
            self.reads("isometric " + name + " b", "isometric", name, "b")
            self.reads("isometric b " + name, "isometric", "b", name)
        for name in ("abcdefghi", "A", "aB", "a1", "1", "a_b", "a-b", "a.b", "=", "#", "a,", "\u00e4", "\u03b1", "a'",
                     "~", "{", "`", "@", "["):
            self.refuses("let " + name + " = 1: 0", "scaled " + name + " a 1", "scaled a " + name + " 1")
            for word in ONE_NAME:
                self.refuses(word + " " + name)
            for word in TWO_NAMES:
                self.refuses(word + " " + name + " a", word + " a " + name)
            for word in THREE_NAMES:
                self.refuses(word + " " + name + " a a", word + " a " + name + " a", word + " a a " + name)

    def test_missing_and_additional_tokens(self):
        for word in ONE_NAME:
            self.refuses(word, word + " a b", word + " a 1", word + " a b c")
        for word in TWO_NAMES:
            self.refuses(word, word + " a", word + " a b c", word + " a b 1")
        for word in THREE_NAMES:
            self.refuses(word, word + " a", word + " a b", word + " a b c d", word + " a b 2")
        self.refuses("scaled", "scaled a", "scaled a b", "scaled a 2", "scaled a b 2 3", "scaled a b c", "scaled 2 a b",
                     "scaled a b 2 c")

    def test_numbers(self):
        for text in ("1", "0", "-1", "2/3", "-2/3", "12345678901234567890", "1/98765432109876543210", "1" + "0" * 1988):
            self.reads("scaled b a " + text, "scaled", "b", "a", q(text))
        for text in ("2/4", "+1", "01", "-0", "1/1", "0/1", "1/0", "1.5", "1/-2", "--1", "1/", "/2", "1/2/3", "a", "",
                     "1e3", "0x1", "1_0",
                     "1 /2", "1/ 2", "- 1", "\u0661", "\u00b2", "0/2", "-", "1,5"):
            self.refuses("scaled b a " + text)

    def test_other_words(self):
        self.refuses("a", "empty", "empty a", "Tree a", "TREE a", "trees a", "tre a", "name a", "centre a", "added",
                     "metric a", "done",
                     "number a", "split a", "gap a", "linkeda b", "a tree", "1", "=", "~", "tree = a", "name a b",
                     "number a b 1")

    def test_characters_and_length(self):
        for sign in ("\t", "\n", "\r", "\v", "\f", "\x00", "\x1f", "\x1c", "\x7f", "\x80", "\u00a0", "\u00e9", "\u2028",
                     "\U0001f600"):
            self.refuses("# " + sign, "tree a" + sign, sign, sign + "tree a", "tree" + sign + "a", "  " + sign,
                         "#" + sign)
        self.reads("# " + "".join(chr(code) for code in range(32, 127)), "empty")
        self.reads("tree a" + " " * 1994, "tree", "a")
        self.refuses("tree a" + " " * 1995, " " * 2001, "#" + "x" * 2000, "# " + "x" * 100000, " " * 1995 + "tree a")
        self.reads(" " * 1994 + "tree a", "tree", "a")

    def test_every_other_value(self):
        for value in OTHERS + [0, 1, -1, Ratio(1), path([1]), ["tree", "a"], ("tree", "a"), ["tree a"], ("empty",), [],
                               (), [[]], None]:
            if value != "":
                self.refuses(value)

    def test_equal_lines_are_read_as_equal_commands(self):
        for line in ("let a = " + TEXT, "scaled a b 2/3", "", "tree a"):
            self.assertEqual(plain(read_line(line)), plain(read_line(line)))


if __name__ == "__main__":
    unittest.main()
