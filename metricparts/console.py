"""A console: it keeps definitions, and the lines that are entered with their replies."""

from metricparts.errors import Refused
from metricparts.log import write_log
from metricparts.replies import defined, reply_to


class Console:
    """A console for at most so many lines."""

    def __init__(self, *, most=300):
        self._most = most
        self._entries = []
        self._names = {}

    def __len__(self):
        return len(self._entries)

    def __iter__(self):
        return iter(self._entries)

    def enter(self, line):
        """Enter a line and return the reply; raise Refused if as many lines as may be were entered."""
        if len(self._entries) >= self._most:
            raise Refused("lines")
        reply = reply_to(self._names, line)
        definition = defined(self._names, line)
        if definition is not None:
            name, metric = definition
            self._names[name] = metric
        self._entries.append((line, reply))
        return reply

    def names(self):
        """Return a new dict from the defined names to their metrics."""
        return dict(self._names)

    def log(self):
        """Return the written form of the entries."""
        return write_log(self._entries)
