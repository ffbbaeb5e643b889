"""Lines of a worksheet, read as commands."""

from metricparts.errors import NoText
from metricparts.metric import read_metric
from metricparts.ratio import read_ratio

# A line has at most so many characters, and a name at most so many letters.
LONGEST_LINE = 2000
LONGEST_NAME = 8

# What stands behind the first token of a line. A let line is read by itself.
FORMS = {
    "scaled": ("name", "name", "number"),
    "added": ("name", "name", "name"),
    "greater": ("name", "name", "name"),
    "product": ("name", "name", "name"),
    "linked": ("name", "name"),
    "show": ("name",),
    "tree": ("name",),
    "ultra": ("name",),
    "cuts": ("name",),
    "euclid": ("name",),
    "isometric": ("name", "name"),
    "splits": ("name",),
    "radius": ("name",),
    "diameter": ("name",),
    "hyperbolicity": ("name",),
}


def is_word(value, most):
    """Tell if a value is a string of one to so many small letters."""
    if not isinstance(value, str) or not 1 <= len(value) <= most:
        return False
    return all(["a" <= sign <= "z" for sign in value])


def is_line(value):
    """Tell if a value is a string of at most 2000 characters from the space to the tilde."""
    if not isinstance(value, str) or len(value) > LONGEST_LINE:
        return False
    return all([" " <= sign <= "~" for sign in value])


def read_line(line):
    """Return the command of a line as a tuple; raise NoText(0) for every value that has no form of a line."""
    if not is_line(line):
        raise NoText(0)
    tokens = line.split()
    if len(tokens) == 0 or line.startswith("#"):
        return ("empty",)
    if tokens[0] == "let":
        return let_command(line, tokens)
    if tokens[0] not in FORMS:
        raise NoText(0)
    kinds = FORMS[tokens[0]]
    if len(tokens) != len(kinds) + 1:
        raise NoText(0)
    return (tokens[0],) + tuple([read_token(kind, token) for kind, token in zip(kinds, tokens[1:])])


def read_token(kind, token):
    """Return what a token behind the first one stands for."""
    return read_ratio(token) if kind == "number" else read_name(token)


def read_name(token):
    """Return a token that is a name."""
    if not is_word(token, LONGEST_NAME):
        raise NoText(0)
    return token


def let_command(line, tokens):
    """Return the command of a let line."""
    if len(tokens) < 3 or tokens[2] != "=":
        raise NoText(0)
    # Neither of the tokens before it can have this sign.
    text = line.partition("=")[2]
    return ("let", read_name(tokens[1]), read_metric(text.strip()))
