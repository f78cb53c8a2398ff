"""The errors of the package, also those that only its later modules raise."""


class PoisonError(ValueError):
    """The base class of what the package itself refuses."""


class InvalidRun(PoisonError):
    """The row with the number `at` is no row of a run."""

    def __init__(self, at):
        self.at = at


class InvalidTable(PoisonError):
    """The signs of a table are wrong; `word` tells what of them."""

    def __init__(self, word):
        self.word = word


class InvalidEvidence(PoisonError):
    """The argument of an evidence with the name `word` is wrong."""

    def __init__(self, word):
        self.word = word


class InvalidText(PoisonError):
    """The line with the number `at` is wrong in a text."""

    def __init__(self, at):
        self.at = at


class InvalidRows(PoisonError):
    """The row with the number `at` is no row of names."""

    def __init__(self, at):
        self.at = at


class Impossible(PoisonError):
    """No table explains the evidence."""


class InvalidCommand(PoisonError):
    """A desk does not know the command."""


class Mismatch(PoisonError):
    """Two evidences do not belong together."""


class Refused(PoisonError):
    """The run with the index `at` was refused, and so all the runs."""

    def __init__(self, at):
        self.at = at


class NoRun(IndexError):
    """There is no run with the number `at`."""

    def __init__(self, at):
        self.at = at


class NoTest(KeyError):
    """There is no test with the name `name`."""

    def __init__(self, name):
        self.name = name
