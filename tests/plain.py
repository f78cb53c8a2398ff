"""Tables and evidences as the document tells them, by trying everything: nothing of it is taken from the package.

A table is here a dict from names to tuples of signs, one for each thing.
"""

import itertools
import random

from poisonruns.evidence import Evidence
from poisonruns.runs import Run

DOES = ("sets", "clears", "leaves")
LOOKS = ("never", "on", "off")
SIGNS = tuple(itertools.product(DOES, LOOKS))


def all_tables(names, things):
    """All tables with these names and so many things."""
    tests = list(itertools.product(SIGNS, repeat=things))
    return [dict(zip(names, picked)) for picked in itertools.product(tests, repeat=len(names))]


def fails(table, order):
    """Whether the last test of an order fails: by its looks, and by the last test before it that touched the thing."""
    for thing, (_, look) in enumerate(table[order[-1]]):
        touching = [table[name][thing][0] for name in order[:-1] if table[name][thing][0] != "leaves"]
        is_set = touching[-1:] == ["sets"]
        if (look == "on" and is_set) or (look == "off" and not is_set):
            return True
    return False


def outcomes(table, row):
    """For each place of a row whether the test there fails."""
    return tuple(fails(table, row[:at + 1]) for at in range(len(row)))


def places(evidence):
    """For each place (run, row, place) the order up to it, and whether its last test failed."""
    return {(at, line, place): ([name for name, _ in row[:place + 1]], row[place][1])
            for at, run in enumerate(evidence.runs) for line, row in enumerate(run.rows) for place in range(len(row))}


def misses(table, evidence):
    """The number of misses of a table over all runs."""
    return sum(fails(table, order) != failed for order, failed in places(evidence).values())


def explains(table, seen, slips):
    """Whether a table has at most so many misses at places seen."""
    for order, failed in seen:
        slips -= fails(table, order) != failed
        if slips < 0:
            return False
    return True


def explaining(evidence):
    """All tables that explain an evidence."""
    seen = list(places(evidence).values())
    return [table for table in all_tables(evidence.names, evidence.things) if explains(table, seen, evidence.slips)]


def words(tables, row):
    """For each place of a row how the test comes out with all of these tables."""
    told = [set(column) for column in zip(*[outcomes(table, row) for table in tables])]
    return tuple("open" if len(column) == 2 else "fails" if column == {True} else "passes" for column in told)


def as_dict(table):
    """The dict of a table of the package."""
    return {name: tuple((table.does(name, thing), table.look(name, thing)) for thing in range(table.things))
            for name in table.names}


def some_evidences(seed, count, names, things):
    """So many evidences, made up anew: some of one table, some with chance, some of chance alone; most are small."""
    luck = random.Random(seed)
    for _ in range(count):
        table = {name: tuple(luck.choice(SIGNS) for _ in range(things)) for name in names}
        chance = luck.choice([0, 0, 0.1, 0.5])
        runs = []
        for _ in range(luck.choice([0, 1, 2, 3, 4, 8])):
            size = luck.choice([1, 1, 2])
            rows = [[luck.choice(names) for _ in range(luck.choice([1, 2, 3, 5]))] for _ in range(size)]
            played = [list(zip(row, outcomes(table, row))) for row in rows]
            runs.append(Run([[(name, failed != (luck.random() < chance)) for name, failed in row] for row in played]))
        yield Evidence(luck.sample(names, len(names)), runs, things, luck.choice([0, 0, 1, 2]))


def some_rows(seed, names):
    """Rows of several places, tests several times among them."""
    luck = random.Random(seed)
    return [[luck.choice(names) for _ in range(luck.choice([1, 2, 4, 6]))] for _ in range(luck.choice([1, 2, 4]))]
