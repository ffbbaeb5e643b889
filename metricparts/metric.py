"""Metrics on at most 8 points, and their texts."""

from metricparts.errors import Fault, Malformed, NoText, Refused
from metricparts.ratio import as_ratio, at_most, is_integer, is_rational, number_in

# More points than these are refused.
MOST = 8


class Metric:
    """A metric on the points 0, .., n - 1; its rows are tuples of Ratio objects."""

    def __init__(self, rows):
        table = table_of(rows)
        if table is None:
            raise Malformed("this is no table of numbers")
        if len(table) > MOST:
            raise Refused("large")
        if not is_pseudo_table(table) or not parts_points(table):
            raise Refused("metric")
        self.n = len(table)
        self.rows = table

    def __eq__(self, other):
        return isinstance(other, Metric) and self.rows == other.rows

    def __str__(self):
        return f"{self.n}: {table_text(self.rows)}"

    def distance(self, x, y):
        """Return the distance of two points."""
        return self.rows[x][y]

    def pairs(self):
        """Return the tuple of the distances of the pairs of points in ascending order."""
        return tuple([self.rows[x][y] for x, y in pairs_of(self.n)])

    def is_point(self, value):
        """Tell if the value is a point."""
        return is_integer(value) and 0 <= value < self.n


def pairs_of(n):
    """Return the list of the pairs of points x < y in ascending order."""
    return [(x, y) for x in range(n) for y in range(x + 1, n)]


def is_numbers(value):
    """Tell if the value is a list or tuple of numbers."""
    return isinstance(value, (list, tuple)) and all([is_rational(item) for item in value])


def table_of(rows):
    """Return the tuple of tuples of Ratio objects of n rows of n numbers, n above 0, or None for other values."""
    if not isinstance(rows, (list, tuple)) or len(rows) == 0:
        return None
    if not all([is_numbers(row) and len(row) == len(rows) for row in rows]):
        return None
    return tuple([tuple([as_ratio(item) for item in row]) for row in rows])


def is_pseudo_table(table):
    """Tell if a table is a pseudometric."""
    points = range(len(table))
    if not all([table[x][x].is_zero() for x in points]):
        return False
    if not all([table[x][y].sign() >= 0 and table[x][y] == table[y][x] for x, y in pairs_of(len(table))]):
        return False
    return all([at_most(table[x][z], table[x][y] + table[y][z]) for x in points for y in points for z in points])


def parts_points(table):
    """Tell if no two unlike points of a pseudometric have the distance 0."""
    return not any([table[x][y].is_zero() for x, y in pairs_of(len(table))])


def is_pseudometric(rows):
    """Tell if the value is a pseudometric on 1 to 8 points."""
    table = table_of(rows)
    return table is not None and len(table) <= MOST and is_pseudo_table(table)


def row_text(row):
    """Return the written forms of the items, joined by spaces."""
    return " ".join([str(item) for item in row])


def table_text(rows):
    """Return the texts of the rows, all but the last one with a semicolon behind."""
    return "; ".join([row_text(row) for row in rows])


def read_metric(text):
    """Return the metric with this text; raise NoText(0) if there is none."""
    if not isinstance(text, str):
        raise NoText(0)
    parts = text.partition(": ")[2].split("; ")
    # A metric's number may be longer than a text that read_ratio takes: two long terms and a slash.
    try:
        found = Metric([[number_in(word) for word in part.split(" ")] for part in parts])
    except Fault:
        raise NoText(0) from None
    # The number of points in front shows here.
    if str(found) != text:
        raise NoText(0)
    return found
