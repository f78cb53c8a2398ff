"""Runs: which tests were run in which order, and which of them failed."""

from poisonruns.basics import first_wrong, is_name, items_of
from poisonruns.errors import InvalidRun, InvalidText


def is_place(value):
    """Whether any value is a pair of a name and whether this test failed."""
    return isinstance(value, tuple) and len(value) == 2 and is_name(value[0]) and isinstance(value[1], bool)


def is_row(value):
    """Whether any value is a row of a run."""
    places = items_of(value)
    return len(places) > 0 and all([is_place(place) for place in places])


def wrong_row(rows):
    """The number of the first row for which any value is not the rows of a run, or None if it is."""
    return first_wrong([is_row(row) for row in items_of(rows)])


def row_text(row):
    """The text of one row of a run."""
    return " ".join([f"{name}!" if failed else name for name, failed in row])


def read_place(word):
    """The pair with the text `word`, if there is one; otherwise something that is no such pair."""
    name = word.removesuffix("!")
    return (name, name != word)


def read_rows(text):
    """The rows of the run with the text `text`."""
    rows = [[read_place(word) for word in row.split(" ")] for row in text.split(" | ")]
    if wrong_row(rows) is not None:
        raise InvalidText(0)
    return rows


class Run:
    """What was seen: rows of tests, run side by side, and which of the tests failed."""

    def __init__(self, rows):
        at = wrong_row(rows)
        if at is not None:
            raise InvalidRun(at)
        self.rows = tuple([tuple(row) for row in rows])
        self.orders = tuple([tuple([name for name, _ in row]) for row in self.rows])
        self.names = tuple(sorted({name for order in self.orders for name in order}))

    @classmethod
    def read(cls, text):
        """The run with this text."""
        return cls(read_rows(text))

    def __add__(self, other):
        if not isinstance(other, Run):
            return NotImplemented
        return Run(self.rows + other.rows)

    def __len__(self):
        return len([place for row in self.rows for place in row])

    def __eq__(self, other):
        # The rows tell the text, and the text tells the rows.
        return isinstance(other, Run) and self.rows == other.rows

    def __str__(self):
        return " | ".join([row_text(row) for row in self.rows])
