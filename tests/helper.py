"""What several tests share: short ways to write numbers, values of other kinds, and an oracle by fractions."""

from fractions import Fraction
from random import Random

from metricparts.errors import Fault, Malformed, NoText, Refused, ZeroDivisor
from metricparts.metric import Metric, read_metric
from metricparts.ratio import Ratio

# Values that are neither integers nor Ratio objects.
OTHERS = [
    True, False, None, "", "0", "1", "1/2", "a", [], [1], [Ratio(1)], (), (1,), (1, 2), (Ratio(1), Ratio(2)),
    [[]], ((),), (None, "x", [True]), Fault("x"), Malformed("x"), ZeroDivisor("x"), Refused("large"), NoText(0),
    Metric([[0]]), Metric([[0, 1], [1, 0]]), [Metric([[0]])],
]
# A tree, a circle, an ultrametric, one without further equalities, a star, one of two and three points joined across.
TOLD = [
    "1: 0", "2: 0 1/2; 1/2 0", "3: 0 1 2; 1 0 1; 2 1 0", "3: 0 1 1; 1 0 1; 1 1 0", "4: 0 1 2 1; 1 0 1 2; 2 1 0 1; 1 2 1 0",
    "4: 0 1 3 3; 1 0 3 3; 3 3 0 2; 3 3 2 0", "4: 0 3 7 9; 3 0 8 10; 7 8 0 4; 9 10 4 0",
    "4: 0 7 8 9; 7 0 10 11; 8 10 0 25/2; 9 11 25/2 0", "5: 0 2 1 1 1; 2 0 1 1 1; 1 1 0 2 2; 1 1 2 0 2; 1 1 2 2 0",
    "5: 0 1 2 2 1; 1 0 1 2 2; 2 1 0 1 2; 2 2 1 0 1; 1 2 2 1 0",
]


def raised(call, *arguments):
    """Return the error that a call raises, as its class and what it tells, or None."""
    try:
        call(*arguments)
    except Refused as fault:
        return (Refused, fault.reason)
    except NoText as fault:
        return (NoText, fault.at)
    except Fault as fault:
        return (type(fault), None)
    return None


MALFORMED = (Malformed, None)


def q(value):
    """Return the Ratio of an integer, of a Fraction or of a text such as -2/3."""
    fraction = Fraction(value)
    return Ratio(fraction.numerator, fraction.denominator)


def row(text):
    """Return the row of the numbers of a text such as 1 -2/3 0."""
    return tuple(q(word) for word in text.split())


def rows(*texts):
    """Return the tuple of the rows of several texts."""
    return tuple(row(text) for text in texts)


def fraction(number):
    """Return the Fraction of a Ratio."""
    return Fraction(number.n, number.d)


def fractions_of(numbers):
    """Return the list of the Fractions of a row."""
    return [fraction(number) for number in numbers]


def product(v, w):
    """Return the product of two rows, as a Fraction."""
    return sum((fraction(a) * fraction(b) for a, b in zip(v, w, strict=True)), Fraction(0))


def shown(value):
    """Return what a value is, in builtin values that compare by contents and kinds."""
    if isinstance(value, Ratio):
        return ("Ratio", value.n, value.d)
    if isinstance(value, (list, tuple)):
        return (type(value).__name__, [shown(item) for item in value])
    return (type(value).__name__, value)


def random_number(random, size=6):
    """Return a small number, often 0."""
    if random.random() < 0.3:
        return Ratio(0)
    return Ratio(random.randint(-size, size), random.randint(1, size))


def random_rows(random, count, width, size=6):
    """Return a tuple of rows, of which some may be zeros, equal or sums of others."""
    found = []
    for _ in range(count):
        kind = random.randrange(6)
        if kind == 0:
            found.append((Ratio(0),) * width)
        elif kind == 1 and found:
            found.append(random.choice(found))
        elif kind == 2 and found:
            one, other = random.choice(found), random.choice(found)
            found.append(tuple(a + b for a, b in zip(one, other)))
        else:
            found.append(tuple(random_number(random, size) for _ in range(width)))
    return tuple(found)


def seeded(seed):
    """Return a source of numbers that is the same in each run."""
    return Random(seed)


def table(m):
    """Return the list of the lists of the distances of a metric, as Fractions."""
    return [fractions_of(row) for row in m.rows]


def ratio_rows(rows_of_fractions):
    """Return the list of the lists of the Ratio objects of rows of Fractions."""
    return [[q(item) for item in one] for one in rows_of_fractions]


def is_metric(rows_of_fractions):
    """Tell if a table of Fractions is a metric, by its definition."""
    n = len(rows_of_fractions)
    for x in range(n):
        for y in range(n):
            here = rows_of_fractions[x][y]
            if here != rows_of_fractions[y][x] or (here > 0) != (x != y) or here < 0:
                return False
            if any(rows_of_fractions[x][z] > here + rows_of_fractions[y][z] for z in range(n)):
                return False
    return True


def random_table(random, n):
    """Return the table of a metric on n points, with Fractions: distances of a graph, of points or nearly equal."""
    kind = random.randrange(4)
    size = random.choice((1, 2, 3, 8))
    if kind == 0:
        items = [[Fraction(random.randint(6, 12), random.choice((1, 6))) for _ in range(n)] for _ in range(n)]
    elif kind == 1:
        items = [[Fraction(random.randint(1, size), random.choice((1, 1, 3))) for _ in range(n)] for _ in range(n)]
    elif kind == 2:
        items = [[Fraction(random.randint(1, 2)) for _ in range(n)] for _ in range(n)]
    else:
        spots = [[random.randint(0, size) for _ in range(4)] + [Fraction(at, 7)] for at in range(n)]
        items = [[sum(abs(a - b) for a, b in zip(v, w)) for w in spots] for v in spots]
    found = [[Fraction(0 if x == y else items[min(x, y)][max(x, y)]) for y in range(n)] for x in range(n)]
    for z in range(n):
        found = [[min(found[x][y], found[x][z] + found[z][y]) for y in range(n)] for x in range(n)]
    return found


def random_metric(random, n):
    """Return a metric on n points."""
    return Metric(ratio_rows(random_table(random, n)))


def metrics(seed, many=6, most=8):
    """Give metrics of 1 to 8 points: first some that are told here, then random ones, so many of each size."""
    for text in TOLD:
        m = read_metric(text)
        if m.n <= most:
            yield m
    random = seeded(seed)
    for n in range(1, most + 1):
        for _ in range(many):
            yield random_metric(random, n)


def subsets(n):
    """Return the ascending list of the splits of n points, by the numbers of two digits."""
    return sorted(tuple(x for x in range(1, n) if mask >> x & 1) for mask in range(2, 2 ** n, 2))
