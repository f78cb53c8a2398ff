"""Evidence: what was seen of some tests, and how much of it may be chance."""

from poisonruns.basics import is_integer, is_order
from poisonruns.errors import InvalidEvidence, InvalidText, Mismatch, NoRun
from poisonruns.runs import Run, read_rows


def are_names(value):
    """Whether any value is a sequence of different names, at least one."""
    return is_order(value) and len(set(value)) == len(value)


def is_run_of(value, names):
    """Whether any value is a run of no other tests than these."""
    return isinstance(value, Run) and all([name in names for name in value.names])


def are_runs_of(value, names):
    """Whether any value is a sequence of runs of no other tests than these."""
    return isinstance(value, (list, tuple)) and all([is_run_of(run, names) for run in value])


def wrong_word(names, runs, things, slips):
    """The parameter name of the first argument that is wrong for an evidence, or None if none of them is."""
    if not are_names(names):
        return "names"
    if not are_runs_of(runs, names):
        return "runs"
    if not is_integer(things) or things not in (1, 2):
        return "things"
    return None if is_integer(slips) and slips >= 0 else "slips"


def is_number(word):
    """Whether a word is a number as texts have them: at most two digits, no leading zero."""
    if not word.isascii() or not word.isdigit() or len(word) > 2:
        return False
    return word == "0" or not word.startswith("0")


def read_numbers(line):
    """The numbers of things and slips that the second line of a text tells, or None if it is wrong."""
    words = line.split(" ")
    if len(words) != 4 or words[0] != "things" or words[2] != "slips":
        return None
    if words[1] not in ("1", "2") or not is_number(words[3]):
        return None
    return int(words[1]), int(words[3])


def read_run(line, at, names):
    """The run in the line with the number `at` of a text."""
    try:
        run = Run(read_rows(line))
    except InvalidText:
        raise InvalidText(at) from None
    if not is_run_of(run, names):
        raise InvalidText(at)
    return run


class Evidence:
    """Runs of some tests, the number of the hidden things, and the number of outcomes that may be chance."""

    def __init__(self, names, runs=(), things=1, slips=0):
        word = wrong_word(names, runs, things, slips)
        if word is not None:
            raise InvalidEvidence(word)
        self.names = tuple(sorted(names))
        self.runs = tuple(runs)
        self.things = things
        self.slips = slips

    @classmethod
    def read(cls, text):
        """The evidence with this text, in which the names may stand in any order."""
        lines = text.split("\n")
        word, *names = lines[0].split(" ")
        if word != "tests" or not are_names(names):
            raise InvalidText(0)
        numbers = read_numbers(lines[1]) if len(lines) > 1 else None
        if numbers is None:
            # The second line is wrong, or missing: then the number of lines is the same 1.
            raise InvalidText(1)
        runs = [read_run(line, at, names) for at, line in enumerate(lines[2:], 2)]
        return cls(names, runs, numbers[0], numbers[1])

    def plus(self, run):
        """The evidence with one more run."""
        return Evidence(self.names, (*self.runs, run), self.things, self.slips)

    def without(self, at):
        """The evidence without the run with this number."""
        self._check(at)
        return Evidence(self.names, self.runs[:at] + self.runs[at + 1:], self.things, self.slips)

    def allowing(self, slips):
        """The evidence with other slips."""
        return Evidence(self.names, self.runs, self.things, slips)

    def explained(self, table):
        """Whether a table explains the evidence."""
        if table.names != self.names or table.things != self.things:
            return False
        return sum([table.misses(run) for run in self.runs]) <= self.slips

    def _check(self, at):
        if not is_integer(at) or not 0 <= at < len(self.runs):
            raise NoRun(at)

    def __add__(self, other):
        if not isinstance(other, Evidence):
            return NotImplemented
        if self.names != other.names or self.things != other.things or self.slips != other.slips:
            raise Mismatch()
        return Evidence(self.names, self.runs + other.runs, self.things, self.slips)

    def __len__(self):
        return len(self.runs)

    def __getitem__(self, at):
        self._check(at)
        return self.runs[at]

    def __iter__(self):
        raise TypeError("an evidence is not iterable")

    def __eq__(self, other):
        # These tell the text, and the text tells these.
        return (isinstance(other, Evidence) and self.names == other.names and self.things == other.things
                and self.slips == other.slips and self.runs == other.runs)

    def __str__(self):
        head = [" ".join(["tests", *self.names]), f"things {self.things} slips {self.slips}"]
        return "\n".join([*head, *[str(run) for run in self.runs]])
