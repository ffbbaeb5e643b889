"""What several tests share: short ways to write numbers, values of other kinds, and an oracle by fractions."""

from fractions import Fraction
from random import Random

from metricparts.errors import Fault, Malformed, NoText, Refused, ZeroDivisor
from metricparts.ratio import Ratio

# Values that are neither integers nor Ratio objects.
OTHERS = [
    True, False, None, "", "0", "1", "1/2", "a", [], [1], [Ratio(1)], (), (1,), (1, 2), (Ratio(1), Ratio(2)),
    [[]], ((),), (None, "x", [True]), Fault("x"), Malformed("x"), ZeroDivisor("x"), Refused("large"), NoText(0),
]


def q(value):
    """Return the Ratio of an integer, of a Fraction or of a text such as -2/3."""
    fraction = Fraction(value)
    return Ratio(fraction.numerator, fraction.denominator)


def row(text):
    """Return the row of the numbers of a text such as 1 -2/3 0."""
    return tuple(q(word) for word in text.split())


def rows(*texts):
    """Return the tuple of the rows of several texts."""
    return tuple(row(text) for text in texts)


def fraction(number):
    """Return the Fraction of a Ratio."""
    return Fraction(number.n, number.d)


def fractions_of(numbers):
    """Return the list of the Fractions of a row."""
    return [fraction(number) for number in numbers]


def product(v, w):
    """Return the product of two rows, as a Fraction."""
    return sum((fraction(a) * fraction(b) for a, b in zip(v, w, strict=True)), Fraction(0))


def shown(value):
    """Return what a value is, in builtin values that compare by contents and kinds."""
    if isinstance(value, Ratio):
        return ("Ratio", value.n, value.d)
    if isinstance(value, (list, tuple)):
        return (type(value).__name__, [shown(item) for item in value])
    return (type(value).__name__, value)


def random_number(random, size=6):
    """Return a small number, often 0."""
    if random.random() < 0.3:
        return Ratio(0)
    return Ratio(random.randint(-size, size), random.randint(1, size))


def random_rows(random, count, width, size=6):
    """Return a tuple of rows, of which some may be zeros, equal or sums of others."""
    found = []
    for _ in range(count):
        kind = random.randrange(6)
        if kind == 0:
            found.append((Ratio(0),) * width)
        elif kind == 1 and found:
            found.append(random.choice(found))
        elif kind == 2 and found:
            one, other = random.choice(found), random.choice(found)
            found.append(tuple(a + b for a, b in zip(one, other)))
        else:
            found.append(tuple(random_number(random, size) for _ in range(width)))
    return tuple(found)


def seeded(seed):
    """Return a source of numbers that is the same in each run."""
    return Random(seed)
