"""Exact rational numbers and their written forms."""

from math import gcd

from metricparts.errors import Malformed, NoText, ZeroDivisor

# Python may refuse to turn thousands of digits at once into a number, or back. So they go in blocks.
DIGITS = 64
BLOCK = 10 ** 64
# A text of more characters is read as no number.
LONGEST = 4000


def is_integer(value):
    """Tell if the value is an integer and not True or False."""
    return isinstance(value, int) and not isinstance(value, bool)


class Ratio:
    """The rational number n / d in lowest terms, with d above 0."""

    def __init__(self, n, d=1):
        if d == 0:
            raise ZeroDivisor("the denominator is 0")
        common = gcd(n, d) if d > 0 else -gcd(n, d)
        self.n = n // common
        self.d = d // common

    def __add__(self, other):
        return Ratio(self.n * other.d + other.n * self.d, self.d * other.d)

    def __sub__(self, other):
        return Ratio(self.n * other.d - other.n * self.d, self.d * other.d)

    def __mul__(self, other):
        return Ratio(self.n * other.n, self.d * other.d)

    def __neg__(self):
        return Ratio(-self.n, self.d)

    def __eq__(self, other):
        return isinstance(other, Ratio) and self.n == other.n and self.d == other.d

    def __str__(self):
        if self.d == 1:
            return f"{written(self.n)}"
        return f"{written(self.n)}/{written(self.d)}"

    def is_zero(self):
        """Tell if this is 0."""
        return self.n == 0

    def sign(self):
        """Return -1, 0 or 1."""
        if self.n == 0:
            return 0
        return 1 if self.n > 0 else -1

    def absolute(self):
        """Return the amount of this number."""
        return Ratio(abs(self.n), self.d)

    def over(self, b):
        """Return this number divided by b."""
        return Ratio(self.n * b.d, self.d * b.n)

    def half(self):
        """Return half of this number."""
        return Ratio(self.n, 2 * self.d)


def less(a, b):
    """Tell if a is less than b."""
    return a.n * b.d < b.n * a.d


def at_most(a, b):
    """Tell if a is at most b."""
    return a.n * b.d <= b.n * a.d


def zero():
    """Return the number 0."""
    return Ratio(0)


def one():
    """Return the number 1."""
    return Ratio(1)


def is_rational(value):
    """Tell if the value is a Ratio, or an integer and not True or False."""
    return isinstance(value, Ratio) or is_integer(value)


def as_ratio(value):
    """Return a Ratio itself, and the Ratio of an integer; raise Malformed for every other value."""
    if isinstance(value, Ratio):
        return value
    if is_integer(value):
        return Ratio(value)
    raise Malformed("this is no number")


def total(numbers):
    """Return the sum of the numbers, 0 without any."""
    result = zero()
    for number in numbers:
        result = result + number
    return result


def least(numbers):
    """Return the least one of one or more numbers."""
    result = numbers[0]
    for number in numbers:
        if less(number, result):
            result = number
    return result


def greatest(numbers):
    """Return the greatest one of one or more numbers."""
    result = numbers[0]
    for number in numbers:
        if less(result, number):
            result = number
    return result


def ascending(numbers):
    """Return the tuple of the numbers in ascending order."""
    if len(numbers) < 2:
        return tuple(numbers)
    middle = len(numbers) // 2
    return merged(ascending(numbers[:middle]), ascending(numbers[middle:]))


def merged(first, second):
    """Return the ascending tuple of the numbers of two ascending tuples."""
    result = []
    at = 0
    for number in second:
        while at < len(first) and at_most(first[at], number):
            result.append(first[at])
            at += 1
        result.append(number)
    return tuple(result) + first[at:]


def written(number):
    """Return the decimal digits of an integer, with a minus sign in front if it is negative."""
    parts = []
    left = abs(number)
    while left >= BLOCK:
        parts.append(str(left % BLOCK).zfill(DIGITS))
        left = left // BLOCK
    parts.append(str(left))
    parts.append("-" if number < 0 else "")
    return "".join(parts[::-1])


def is_digits(text):
    """Tell if the text is one or more of the digits 0 to 9."""
    return text.isascii() and text.isdigit()


def number_of(digits):
    """Return the integer with these decimal digits."""
    first = len(digits) % DIGITS
    result = int("0" + digits[:first])
    for start in range(first, len(digits), DIGITS):
        result = result * BLOCK + int(digits[start:start + DIGITS])
    return result


def read_ratio(text):
    """Return the number with this written form, of at most 4000 characters; raise NoText(0) if there is none."""
    if not isinstance(text, str) or len(text) > LONGEST:
        raise NoText(0)
    return number_in(text)


def number_in(text):
    """Return the number with this written form, however long it is; raise NoText(0) if there is none."""
    top, slash, bottom = text.partition("/")
    digits = top.removeprefix("-")
    if slash == "":
        bottom = "1"
    if not is_digits(digits) or not is_digits(bottom):
        raise NoText(0)
    n = number_of(digits)
    d = number_of(bottom)
    if d == 0:
        raise NoText(0)
    found = Ratio(-n if top.startswith("-") else n, d)
    # Leading zeros, -0, a denominator 1 and terms that are not lowest all show here.
    if str(found) != text:
        raise NoText(0)
    return found
