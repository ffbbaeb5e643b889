"""Written forms of plain data and of lists of entries, and the first wrong entry of a list."""

from metricparts.errors import Malformed, NoText
from metricparts.ratio import Ratio, is_integer, number_in, written
from metricparts.replies import Reply, defined, is_right
from metricparts.sheet import is_word

# An integer of plain data has at most so many digits, a label so many letters; tuples are so deep at the most.
MOST_DIGITS = 2000
LONGEST_LABEL = 12
DEEPEST = 20
# The three lines of an entry begin so: the line, the kind and the text, the data.
MARKS = ("> ", "= ", "# ")


def is_label(value):
    """Tell if a value is a string of 1 to 12 small letters."""
    return is_word(value, LONGEST_LABEL)


def is_short(digits):
    """Tell if a written integer has at most 2000 digits."""
    return len(digits.removeprefix("-")) <= MOST_DIGITS


def write_data(data):
    """Return the written form of plain data; raise Malformed for every other value."""
    return data_text(data, DEEPEST)


def data_text(data, depth):
    """Return the written form of plain data with tuples of at most this depth."""
    if isinstance(data, tuple) and depth > 0:
        return "(" + " ".join([data_text(item, depth - 1) for item in data]) + ")"
    if isinstance(data, Ratio):
        return f"q{data}"
    if is_integer(data) and is_short(written(data)):
        return written(data)
    if is_label(data):
        return data
    raise Malformed("these are no plain data")


def item_in(word):
    """Return the label, the Ratio or the integer with this written form; raise NoText(0) if there is none."""
    if is_label(word):
        return word
    if word.startswith("q"):
        return number_in(word[1:])
    number = number_in(word)
    if number.d != 1 or not is_short(word):
        raise NoText(0)
    return number.n


def read_data(text):
    """Return the plain data with this written form; raise NoText(0) if there are none."""
    if not isinstance(text, str):
        raise NoText(0)
    # The items of the tuples that are open at a place, the outermost ones first; in front those beside all tuples.
    levels = [[]]
    for word in text.replace("(", "( ").replace(")", " )").split(" "):
        if word == "(" and len(levels) <= DEEPEST:
            levels.append([])
        elif word == ")" and len(levels) > 1:
            inner = tuple(levels.pop())
            levels[-1].append(inner)
        elif word != "":
            levels[-1].append(item_in(word))
    # Spaces that are missing or too many show in the written form.
    if len(levels) > 1 or len(levels[0]) != 1 or write_data(levels[0][0]) != text:
        raise NoText(0)
    return levels[0][0]


def is_one_line(value):
    """Tell if a value is a string without a line feed."""
    return isinstance(value, str) and "\n" not in value


def is_entry(value):
    """Tell if a value is an entry that can be written, if its data are plain data."""
    if not isinstance(value, tuple) or len(value) != 2:
        return False
    line, reply = value
    if not is_one_line(line) or not isinstance(reply, Reply):
        return False
    return is_label(reply.kind) and is_one_line(reply.text) and isinstance(reply.data, tuple)


def entry_text(entry):
    """Return the three lines of an entry; raise Malformed for every other value."""
    if not is_entry(entry):
        raise Malformed("this is no entry")
    line, reply = entry
    return f"> {line}\n= {reply.kind} {reply.text}\n# {write_data(reply.data)}\n"


def write_log(entries):
    """Return the written form of a list of entries; raise Malformed if an item is none."""
    return "".join([entry_text(entry) for entry in entries])


def part_in(line, at):
    """Return what a line of a log tells at its place: a line, a kind and a text, or data."""
    mark = MARKS[at % 3]
    if not line.startswith(mark):
        raise NoText(at)
    rest = line.removeprefix(mark)
    if at % 3 == 0:
        return rest
    return reply_part(rest, at) if at % 3 == 1 else data_part(rest, at)


def reply_part(rest, at):
    """Return the pair of the kind and the text of a reply."""
    kind, space, text = rest.partition(" ")
    if not is_label(kind) or space == "":
        raise NoText(at)
    return (kind, text)


def data_part(rest, at):
    """Return the data of a reply, a tuple."""
    try:
        data = read_data(rest)
    except NoText:
        raise NoText(at) from None
    if not isinstance(data, tuple):
        raise NoText(at)
    return data


def read_log(text):
    """Return the list of entries with this written form; raise NoText with the number of the first wrong line."""
    if not isinstance(text, str):
        raise NoText(0)
    lines = text.split("\n")
    parts = [part_in(line, at) for at, line in enumerate(lines[:-1])]
    # What stands behind the last line feed is nothing, and the lines are three for each entry.
    if lines[-1] != "" or len(parts) % 3 != 0:
        raise NoText(len(parts))
    replies = [Reply(kind, told, data) for (kind, told), data in zip(parts[1::3], parts[2::3])]
    return list(zip(parts[::3], replies))


def first_wrong(entries):
    """Return the index of the first item of a list that is no right entry, or -1."""
    names = {}
    for at, entry in enumerate(entries):
        if not is_right(names, entry):
            return at
        definition = defined(names, entry[0])
        if definition is not None:
            name, metric = definition
            names[name] = metric
    return -1
