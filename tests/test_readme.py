import doctest
import pathlib
import unittest

README = pathlib.Path(__file__).resolve().parent.parent / "README.md"


class Readme(unittest.TestCase):
    def test_the_examples(self):
        # The fences are taken out, since they would count as a part of what an example shows.
        text = README.read_text("utf-8").replace("```", "")
        found = doctest.DocTestParser().get_doctest(text, {}, "README", str(README), 0)
        self.assertGreater(len(found.examples), 5)
        lines = []
        result = doctest.DocTestRunner(verbose=False).run(found, out=lines.append)
        self.assertEqual((result.failed, "".join(lines)), (0, ""))


if __name__ == "__main__":
    unittest.main()
