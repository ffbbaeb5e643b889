"""Replies to the lines of a worksheet, and whether a reply is right."""

from metricparts.build import added, greater, product, scaled
from metricparts.checker import takes_cuts, takes_euclid, takes_isometry, takes_splits, takes_tree, takes_ultra
from metricparts.errors import Fault, Malformed, NoText, Refused
from metricparts.papers import cut_paper, euclid_paper, isometry_paper, split_paper, tree_paper, ultra_paper
from metricparts.points import diameter, hyperbolicity, radius
from metricparts.sheet import read_line
from metricparts.ultra import single_linkage

# The lines that define a name, those that are answered with a paper, and the words of papers that say yes.
DEFINING = ("let", "scaled", "added", "greater", "product", "linked")
SHOWING = ("tree", "ultra", "cuts", "euclid", "isometric", "splits")
YES = ("tree", "levels", "cuts", "euclid", "isometric")
# The numbers of a metric that is defined are below this one: they have at most 10 digits.
TOO_LARGE = 10 ** 10


class Reply:
    """A reply: its kind, a text, and data."""

    def __init__(self, kind, text="", data=()):
        self.kind = kind
        self.text = text
        self.data = data

    def __eq__(self, other):
        if not isinstance(other, Reply):
            return False
        return are_equal((self.kind, self.text, self.data), (other.kind, other.text, other.data))


def are_alike(a, b):
    """Tell if two values are both lists, or both tuples."""
    return (isinstance(a, list) and isinstance(b, list)) or (isinstance(a, tuple) and isinstance(b, tuple))


def are_equal(first, second):
    """Tell if two values are equal, however deep they are nested, where True and False are no integers."""
    left = [(first, second)]
    while left:
        a, b = left.pop()
        if are_alike(a, b):
            if len(a) != len(b):
                return False
            left.extend(list(zip(a, b)))
        elif isinstance(a, bool) != isinstance(b, bool) or a != b:
            return False
    return True


def metric_of(names, name):
    """Return the metric with a name; raise Refused if there is none."""
    if name not in names:
        raise Refused("name")
    return names[name]


def combined(names, command):
    """Return the metric that a defining command tells, however long its numbers are."""
    word = command[0]
    if word == "let":
        return command[2]
    a = metric_of(names, command[2])
    if word == "scaled":
        return scaled(a, command[3])
    if word == "linked":
        return single_linkage(a)
    b = metric_of(names, command[3])
    if word == "added":
        return added(a, b)
    return greater(a, b) if word == "greater" else product(a, b)


def made(names, command):
    """Return the metric that a defining command tells; raise Refused if a number of it has too many digits."""
    found = combined(names, command)
    if any([number.n >= TOO_LARGE or number.d >= TOO_LARGE for number in found.pairs()]):
        raise Refused("digits")
    return found


def paper_for(word, metrics):
    """Return the paper that answers a showing line."""
    if word == "tree":
        return tree_paper(metrics[0])
    if word == "ultra":
        return ultra_paper(metrics[0])
    if word == "cuts":
        return cut_paper(metrics[0])
    if word == "euclid":
        return euclid_paper(metrics[0])
    if word == "isometric":
        return isometry_paper(metrics[0], metrics[1])
    return split_paper(metrics[0])


def takes_paper(word, metrics, paper):
    """Tell if the checker accepts a paper for a showing line."""
    if word == "tree":
        return takes_tree(metrics[0], paper)
    if word == "ultra":
        return takes_ultra(metrics[0], paper)
    if word == "cuts":
        return takes_cuts(metrics[0], paper)
    if word == "euclid":
        return takes_euclid(metrics[0], paper)
    if word == "isometric":
        return takes_isometry(metrics[0], metrics[1], paper)
    return takes_splits(metrics[0], paper)


def paper_kind(word):
    """Return the kind of the reply to a showing line."""
    return "number" if word == "splits" else word


def paper_text(paper):
    """Return the text that belongs to a paper."""
    if paper[0] == "splits":
        return str(len(paper[1]))
    return "yes" if paper[0] in YES else "no"


def measure(word, metric):
    """Return the number that a line asks for."""
    if word == "radius":
        return radius(metric)
    if word == "diameter":
        return diameter(metric)
    return hyperbolicity(metric)


def answer(names, command):
    """Return the reply to a command."""
    word = command[0]
    if word == "empty":
        return Reply("done")
    if word in DEFINING:
        return Reply("metric", str(made(names, command)))
    metrics = [metric_of(names, name) for name in command[1:]]
    if word == "show":
        return Reply("metric", str(metrics[0]))
    if word in SHOWING:
        paper = paper_for(word, metrics)
        return Reply(paper_kind(word), paper_text(paper), paper)
    return Reply("number", str(measure(word, metrics[0])))


def reply_to(names, line):
    """Return the reply to a line, for every value of it."""
    try:
        return answer(names, read_line(line))
    except NoText:
        return Reply("error", "text")
    except Malformed:
        return Reply("error", "malformed")
    except Refused as fault:
        return Reply("error", f"refused {fault.reason}")


def defined(names, line):
    """Return the pair of the name and the metric that a line defines, or None, for every value of it."""
    try:
        command = read_line(line)
        return (command[1], made(names, command)) if command[0] in DEFINING else None
    except Fault:
        return None


def shown_metrics(names, line):
    """Return the first token and the metrics of a showing line whose names are defined, None for other values."""
    try:
        command = read_line(line)
        if command[0] not in SHOWING:
            return None
        return command[0], [metric_of(names, name) for name in command[1:]]
    except Fault:
        return None


def is_right(names, entry):
    """Tell if an entry is right over definitions, for every value of it."""
    if not isinstance(entry, tuple) or len(entry) != 2 or not isinstance(entry[1], Reply):
        return False
    line, reply = entry
    found = shown_metrics(names, line)
    if found is None:
        return reply == reply_to(names, line)
    word, metrics = found
    if reply.kind != paper_kind(word) or not takes_paper(word, metrics, reply.data):
        return False
    return reply.text == paper_text(reply.data)
