"""Blame: how many outcomes have to be chance, which of them, and which runs contradict each other."""

from poisonruns.space import Space, both, but, either, most_misses, with_run, without_misses, wrong_of


def space_of(evidence):
    """All tables with the names and things of an evidence."""
    return Space(evidence.names, evidence.things)


def counted(digits, tables):
    """The digits of the tables' numbers of misses, where these tables have one more.

    The numbers are binary: for each digit, from the last to the first, there is the set of the tables in whose number
    it is 1. So a few sets tell how many misses each table has, however many there are.
    """
    told = []
    carried = tables
    for digit in digits:
        told.append(either(but(digit, carried), but(carried, digit)))
        carried = both(digit, carried)
    return [*told, carried] if any(carried) else told


def fewest(space, evidence):
    """The least number of misses over all runs, and the set of the tables that have just so many."""
    digits = []
    for run in evidence.runs:
        for row in wrong_of(space, run):
            for wrong in row:
                digits = counted(digits, wrong)
    least = 0
    tables = space.every
    for at, digit in reversed(list(enumerate(digits))):
        rest = but(tables, digit)
        if any(rest):
            tables = rest
        else:
            least += 1 << at
    return least, tables


def least_slips(evidence):
    """The least number of misses over all runs that some table has."""
    return fewest(space_of(evidence), evidence)[0]


def conflict(evidence):
    """The first of the smallest sets of runs that no table explains with the slips of the evidence, or None."""
    space = space_of(evidence)
    wrong = [wrong_of(space, run) for run in evidence.runs]
    # All sets of so many runs, ascending, each with the tables that explain it by their numbers of misses.
    last = [((), without_misses(space, most_misses(evidence)))]
    for _ in wrong:
        last = [((*numbers, at), with_run(by_misses, wrong[at])) for numbers, by_misses in last
                for at in range(len(wrong)) if not numbers or numbers[-1] < at]
        torn = [numbers for numbers, by_misses in last if not any([any(tables) for tables in by_misses])]
        if torn:
            return torn[0]
    return None


def chance(evidence):
    """The places (run, row, place) at which each table with the fewest misses has another outcome than was seen."""
    space = space_of(evidence)
    _, tables = fewest(space, evidence)
    return tuple([(at, line, place) for at, run in enumerate(evidence.runs)
                  for line, row in enumerate(wrong_of(space, run)) for place, wrong in enumerate(row)
                  if not any(but(tables, wrong))])
