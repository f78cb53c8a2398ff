"""Asking: which row tells most, whatever comes out of it."""

from poisonruns.basics import longer
from poisonruns.space import both, but, size, view_of


def rows_of(names, longest):
    """All rows of different names, at most so many: shorter ones first, those of one length ascending."""
    found = []
    last = [()]
    for _ in range(longest):
        last = longer(last, names)
        found = found + last
    return found


def greatest(view, row):
    """The greatest number of tables that explain the evidence and have one and the same outcome of a row."""
    parts = [view.tables]
    for failing in view.space.failing(row):
        parts = [both(part, failing) for part in parts] + [but(part, failing) for part in parts]
        # What is empty stays so: without it there are no more parts than tables.
        parts = [part for part in parts if any(part)]
    return max([size(part) for part in parts])


def best_row(evidence, longest):
    """The row of at most so many tests that leaves the fewest tables, and how many it leaves if it tells least."""
    view = view_of(evidence)
    found = [(row, greatest(view, row)) for row in rows_of(evidence.names, longest)]
    # Of several the first is taken: so they stand in this order.
    return min(found, key=lambda pair: pair[1])
