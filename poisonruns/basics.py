"""What an integer, a name, a sequence and a row of names are."""

from poisonruns.errors import InvalidRows, NoTest


def is_integer(value):
    """Whether any value is an integer; a bool is none."""
    return isinstance(value, int) and not isinstance(value, bool)


def is_name(value):
    """Whether any value is the name of a test."""
    if not isinstance(value, str) or len(value) > 4 or value == "none":
        return False
    return value.isascii() and value.isalpha() and value.islower()


def items_of(value):
    """The items of a list or a tuple; of any other value, which is no sequence, there are none."""
    return value if isinstance(value, (list, tuple)) else ()


def first_wrong(fits):
    """The number of the first row that does not fit: 0 if there is no row at all, None if all of them fit."""
    if len(fits) == 0:
        return 0
    return fits.index(False) if False in fits else None


def is_order(value):
    """Whether any value is a row of names."""
    names = items_of(value)
    return len(names) > 0 and all([is_name(name) for name in names])


def longer(rows, names):
    """The rows with one more of these names, which they do not have yet: ascending if the rows and the names are."""
    return [(*row, name) for row in rows for name in names if name not in row]


def check_rows(rows, names):
    """Raises the error that any value as rows of names deserves where only the tests `names` are known."""
    at = first_wrong([is_order(row) for row in items_of(rows)])
    if at is not None:
        raise InvalidRows(at)
    for row in rows:
        for name in row:
            if name not in names:
                raise NoTest(name)
