import math
import unittest
from fractions import Fraction

from metricparts.errors import Malformed, ZeroDivisor
from metricparts.ratio import (
    Ratio, as_ratio, ascending, at_most, greatest, is_integer, is_rational, least, less, one, total, zero,
)
from tests.helper import OTHERS, fraction, q, random_number, seeded, shown

BIG = 7 ** 400
HUGE = 3 ** 700 + 2
SOME = [q(text) for text in ("0", "1", "-1", "1/2", "-1/2", "2/3", "-7/4", "12", "-12", "99/100", "3/7")]


class LowestTerms(unittest.TestCase):
    def check(self, n, d):
        number = Ratio(n, d)
        self.assertGreater(number.d, 0)
        self.assertEqual(math.gcd(number.n, number.d), 1)
        self.assertEqual(number.n * d, n * number.d)
        self.assertEqual((type(number.n), type(number.d)), (int, int))

    def test_small_numbers(self):
        for n in range(-12, 13):
            for d in list(range(-12, 0)) + list(range(1, 13)):
                self.check(n, d)

    def test_signs(self):
        for n, d, fields in ((2, 4, (1, 2)), (-2, 4, (-1, 2)), (2, -4, (-1, 2)), (-2, -4, (1, 2)), (3, -1, (-3, 1))):
            number = Ratio(n, d)
            self.assertEqual((number.n, number.d), fields)

    def test_zero_has_the_denominator_one(self):
        for d in (1, -1, 7, -7, BIG, -BIG):
            number = Ratio(0, d)
            self.assertEqual((number.n, number.d), (0, 1))

    def test_hundreds_of_digits(self):
        for n, d in ((BIG, HUGE), (BIG * HUGE, HUGE * 5), (-BIG * 6, BIG * 9), (BIG, -BIG), (HUGE * 4, -6 * BIG)):
            self.check(n, d)
        self.assertEqual((Ratio(-BIG * 6, -BIG * 9).n, Ratio(-BIG * 6, -BIG * 9).d), (2, 3))

    def test_default_denominator(self):
        for n in (0, 5, -5, BIG):
            self.assertEqual((Ratio(n).n, Ratio(n).d), (n, 1))

    def test_by_keyword(self):
        number = Ratio(n=3, d=-6)
        self.assertEqual((number.n, number.d), (-1, 2))

    def test_denominator_zero(self):
        for n in (0, 1, -1, BIG):
            with self.assertRaises(ZeroDivisor):
                Ratio(n, 0)

    def test_fields_are_set_on_each_object(self):
        self.assertEqual(vars(Ratio(4, 6)), {"n": 2, "d": 3})


class Operators(unittest.TestCase):
    def check(self, a, b):
        x, y = fraction(a), fraction(b)
        self.assertEqual(fraction(a + b), x + y)
        self.assertEqual(fraction(a - b), x - y)
        self.assertEqual(fraction(a * b), x * y)
        self.assertEqual(fraction(-a), -x)
        self.assertEqual(fraction(a.half()), x / 2)
        self.assertEqual(fraction(a.absolute()), abs(x))
        self.assertEqual(a.is_zero(), x == 0)
        self.assertEqual(a.sign(), (x > 0) - (x < 0))
        self.assertEqual(a == b, x == y)
        self.assertEqual(a != b, x != y)
        self.assertEqual(less(a, b), x < y)
        self.assertEqual(at_most(a, b), x <= y)
        if y != 0:
            self.assertEqual(fraction(a.over(b)), x / y)

    def test_some_pairs(self):
        for a in SOME:
            for b in SOME:
                self.check(a, b)

    def test_many_digits(self):
        numbers = [Ratio(BIG, HUGE), Ratio(-BIG, HUGE), Ratio(HUGE, BIG), Ratio(BIG + 1, HUGE), Ratio(0), Ratio(1, BIG)]
        for a in numbers:
            for b in numbers:
                self.check(a, b)

    def test_results_are_in_lowest_terms(self):
        for a in SOME:
            for b in SOME:
                for result in (a + b, a - b, a * b, -a, a.half(), a.absolute()):
                    self.assertIsInstance(result, Ratio)
                    self.assertEqual((math.gcd(result.n, result.d), result.d > 0), (1, True))

    def test_results_of_tests_are_booleans(self):
        for result in (less(q(1), q(2)), at_most(q(2), q(1)), q(0).is_zero(), q(1) == q(1), q(1) == 1, is_integer(1),
                       is_rational(q(1)), is_rational(None)):
            self.assertIn(shown(result), (("bool", True), ("bool", False)))

    def test_operators_change_nothing(self):
        a, b = q("-2/3"), q("1/2")
        for _ in (a + b, a - b, a * b, -a, a.over(b), a.half(), a.absolute(), a.sign(), a == b, str(a), less(a, b)):
            self.assertEqual(((a.n, a.d), (b.n, b.d)), ((-2, 3), (1, 2)))

    def test_example(self):
        self.assertEqual(str(Ratio(1, 2) + Ratio(-2, 3)), "-1/6")

    def test_over_zero(self):
        for a in SOME + [Ratio(BIG, HUGE)]:
            with self.assertRaises(ZeroDivisor):
                a.over(Ratio(0))
            with self.assertRaises(ZeroDivisor):
                a.over(Ratio(0, -5))

    def test_only_a_denominator_zero_is_a_zero_divisor(self):
        nothing = Ratio(0)
        for a in SOME:
            for result in (nothing + a, a - a, a * nothing, -nothing, nothing.half(), nothing.absolute()):
                self.assertIsInstance(result, Ratio)
        self.assertTrue(nothing.over(q("-3/4")).is_zero())


class Equal(unittest.TestCase):
    def test_equal_numbers(self):
        self.assertTrue(Ratio(1, 2) == Ratio(-3, -6))
        self.assertFalse(Ratio(1, 2) != Ratio(-3, -6))
        self.assertTrue(Ratio(BIG * 2, HUGE * 2) == Ratio(BIG, HUGE))

    def test_unlike_numbers(self):
        for one_text, other_text in (("1/2", "1/3"), ("1/2", "-1/2"), ("2/3", "1/3"), ("0", "1")):
            self.assertFalse(q(one_text) == q(other_text))
            self.assertTrue(q(one_text) != q(other_text))

    def test_every_other_value(self):
        for number in (Ratio(0), Ratio(1), Ratio(1, 2), Ratio(-3)):
            for value in OTHERS + [0, 1, -3, BIG, (1, 2), [number], (number,), str(number)]:
                self.assertIs(number == value, False, value)
                self.assertIs(value == number, False, value)
                self.assertIs(number != value, True, value)


class Kinds(unittest.TestCase):
    def test_integers(self):
        for value in (0, 1, -1, 17, BIG, -BIG):
            self.assertIs(is_integer(value), True)
            self.assertIs(is_rational(value), True)
            number = as_ratio(value)
            self.assertEqual(shown(number), ("Ratio", value, 1))

    def test_ratios(self):
        for value in SOME + [Ratio(BIG, HUGE)]:
            self.assertIs(is_integer(value), False)
            self.assertIs(is_rational(value), True)
            self.assertIs(as_ratio(value), value)

    def test_every_other_value(self):
        for value in OTHERS:
            self.assertIs(is_integer(value), False, value)
            self.assertIs(is_rational(value), False, value)
            with self.assertRaises(Malformed):
                as_ratio(value)

    def test_zero_and_one(self):
        self.assertEqual(shown(zero()), ("Ratio", 0, 1))
        self.assertEqual(shown(one()), ("Ratio", 1, 1))


class Several(unittest.TestCase):
    def both_kinds(self, numbers):
        return (list(numbers), tuple(numbers))

    def test_total(self):
        for numbers in self.both_kinds(SOME):
            self.assertEqual(fraction(total(numbers)), sum(fraction(number) for number in SOME))
        for numbers in self.both_kinds([q("-5/3")]):
            self.assertEqual(shown(total(numbers)), ("Ratio", -5, 3))
        for numbers in self.both_kinds([]):
            self.assertEqual(shown(total(numbers)), ("Ratio", 0, 1))

    def test_least_and_greatest(self):
        for texts in ("1", "1 1 1", "2 1", "1 2", "1/2 1/3 -1/4 -1/3 0", "-1 -2 -1/2", "0 0 -1 -1 1 1", "3/7 2/5 5/12"):
            words = texts.split()
            for numbers in self.both_kinds([q(word) for word in words]):
                self.assertEqual(fraction(least(numbers)), min(Fraction(word) for word in words))
                self.assertEqual(fraction(greatest(numbers)), max(Fraction(word) for word in words))

    def test_ascending(self):
        for texts in ("", "1", "1 1 1", "2 1", "1 2", "3 2 1", "1/2 1/3 -1/4 -1/3 0", "0 0 -1 -1 1 1", "3/7 2/5 5/12"):
            words = texts.split()
            for numbers in self.both_kinds([q(word) for word in words]):
                found = ascending(numbers)
                self.assertIsInstance(found, tuple)
                self.assertEqual([fraction(number) for number in found], sorted(Fraction(word) for word in words))

    def test_many_numbers(self):
        random = seeded(11)
        for count in range(40):
            numbers = [random_number(random, 9) for _ in range(count)]
            values = sorted(fraction(number) for number in numbers)
            self.assertEqual([fraction(number) for number in ascending(numbers)], values)
            if count:
                self.assertEqual(fraction(least(numbers)), values[0])
                self.assertEqual(fraction(greatest(numbers)), values[-1])

    def test_numbers_that_differ_in_the_last_digits(self):
        numbers = [Ratio(BIG + k, HUGE) for k in (3, 1, 2, 0)]
        self.assertEqual([number.n * HUGE // number.d - BIG for number in ascending(numbers)], [0, 1, 2, 3])
        self.assertTrue(less(numbers[1], numbers[2]))
        self.assertFalse(at_most(numbers[2], numbers[1]))

    def test_arguments_stay_the_same(self):
        numbers = [q("2"), q("1"), q("3/2"), q("1")]
        before = shown(numbers)
        for function in (total, least, greatest, ascending):
            self.assertEqual(shown(function(numbers)), shown(function(list(numbers))))
            self.assertEqual(shown(function(numbers)), shown(function(tuple(numbers))))
            self.assertEqual(shown(numbers), before)


if __name__ == "__main__":
    unittest.main()
