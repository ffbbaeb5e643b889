import unittest
from fractions import Fraction

from metricparts.errors import NoText
from metricparts.ratio import Ratio, read_ratio
from tests.helper import OTHERS, q, shown

WRITTEN = [
    ("0", 0, 1), ("1", 1, 1), ("-1", -1, 1), ("10", 10, 1), ("-10", -10, 1), ("907", 907, 1), ("1/2", 1, 2),
    ("-1/2", -1, 2), ("10/3", 10, 3), ("-100/101", -100, 101), ("3/10", 3, 10), ("1/100", 1, 100), ("7/9", 7, 9),
]
WRONG = [
    "", " ", "  ", "/", "-", "--1", "+1", "+0", "1+", "1-", " 1", "1 ", "1 /2", "1/ 2", "1/2 ", " 1/2", "- 1", "1\n",
    "\n1", "1/2\n", "1\t", "00", "01", "-01", "007", "1/02", "01/2", "-0", "-0/1", "0/1", "0/2", "0/5", "1/0", "0/0",
    "-1/0", "1/1", "-3/1", "10/1", "1/-2", "-1/-2", "1/-1", "1/+2", "2/4", "-2/4", "10/5", "6/3", "3/3", "1/", "/2",
    "-/2", "-1/", "1//2", "1/2/3", "1/2/", "/1/2", "1.5", "1.", ".5", "0.5", "1,5", "1e3", "1E3", "0x10", "x", "1x",
    "x1", "1_000", "1_0/3", "a/b", "one", "nan", "inf", "q1", "(1)", "1;2", "1:2", "1\x00", "\x001", "\u0661",
    "\u0661/2", "1/\u0662", "\u00b2", "1\u00b2", "\u00bd", "\uff11", "\u22121", "\u20131", "1\u20442", "\u00a01",
    "1\u00a0", "1\u2009", "\u0967", "\U0001d7ce", "\U0001d7cf", "\u4e00", "\ud800", "1\ud800",
]


class Texts(unittest.TestCase):
    def refuse(self, value):
        with self.assertRaises(NoText) as caught:
            read_ratio(value)
        self.assertEqual(caught.exception.at, 0)

    def test_written_forms(self):
        for text, n, d in WRITTEN:
            self.assertEqual(str(Ratio(n, d)), text)
            self.assertEqual(str(Ratio(-n, -d)), text)
            self.assertEqual(str(Ratio(6 * n, 6 * d)), text)

    def test_read_back(self):
        for text, n, d in WRITTEN:
            self.assertEqual(shown(read_ratio(text)), ("Ratio", n, d))

    def test_all_small_numbers(self):
        for n in range(-30, 31):
            for d in range(1, 31):
                text = str(Ratio(n, d))
                self.assertEqual(text, str(Fraction(n, d)))
                self.assertEqual(shown(read_ratio(text)), shown(q(Fraction(n, d))))

    def test_texts_that_are_no_written_form(self):
        for text in WRONG:
            with self.subTest(text=text):
                self.refuse(text)

    def test_every_short_text(self):
        signs = "0129-/+ ."
        texts = [""]
        for _ in range(4):
            texts = [text + sign for text in texts for sign in signs]
            for text in texts:
                top, _, bottom = text.partition("/")
                try:
                    good = str(Fraction(int(top), int(bottom or "1"))) == text
                except (ValueError, ZeroDivisionError):
                    good = False
                if good:
                    self.assertEqual(str(read_ratio(text)), text)
                else:
                    self.refuse(text)

    def test_values_that_are_no_string(self):
        for value in OTHERS + [0, 1, -5, Ratio(1, 2), Ratio(3), ["1"], ("1",)]:
            if not isinstance(value, str):
                self.refuse(value)

    def test_many_digits(self):
        for count in (63, 64, 65, 127, 128, 129, 300, 1999, 2000, 2500, 3998):
            for digits in ("9" * count, "1" + "0" * (count - 1), ("1234567890" * 400)[:count], "1" * (count - 1) + "7"):
                for text in (digits, "-" + digits):
                    number = read_ratio(text)
                    self.assertEqual((number.n, number.d), (int(text), 1))
                    self.assertEqual(str(number), text)
                self.refuse("0" + digits)
                self.refuse(digits + "/" + digits)
                self.refuse(digits + "a")

    def test_many_digits_in_both(self):
        top, bottom = "1" + "0" * 1999, "9" * 1990
        for text in (top + "/" + bottom, "-" + top + "/" + bottom, bottom + "/" + top):
            self.assertEqual(str(read_ratio(text)), text)
        self.refuse(top + "/" + "5" * 1000)

    def test_beyond_two_thousand_digits_within_the_length(self):
        digits = "8" * 3997 + "1"
        number = read_ratio("1/" + digits)
        self.assertEqual(number.n, 1)
        self.assertEqual(number.d * 9, 8 * 10 ** 3998 - 8 - 63)
        self.assertEqual(str(number), "1/" + digits)

    def test_at_most_four_thousand_characters(self):
        for start in ("1", "-1", "7/1", "-7/1"):
            text = start + "0" * (4000 - len(start))
            number = read_ratio(text)
            due = Fraction(*[int(part) for part in text.partition("/")[::2] if part])
            self.assertEqual((number.n, number.d), (due.numerator, due.denominator))
            for more in (1, 2, 500, 4000):
                self.refuse(text + "0" * more)
        self.refuse("1" * 2000 + "/" + "1" + "0" * 1999)
        self.refuse("0" * 4001)

    def test_the_same_text_gives_the_same_number(self):
        self.assertTrue(read_ratio("-7/3") == read_ratio("-7/3"))


if __name__ == "__main__":
    unittest.main()
