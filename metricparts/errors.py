"""The errors that the program raises."""


class Fault(ValueError):
    """The base class of all errors that the program raises."""


class Malformed(Fault):
    """An argument has not the form that is asked for."""


class ZeroDivisor(Fault):
    """Something is divided by 0."""


class Refused(Fault):
    """An argument has the right form, but is not accepted: `reason` is a string of small letters."""

    def __init__(self, reason):
        self.reason = reason


class NoText(Fault):
    """A text is not the written form of anything: `at` is an integer that tells the place."""

    def __init__(self, at):
        self.at = at
