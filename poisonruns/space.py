"""Sets of tables: all tables with certain names and so many things, and those of them that explain an evidence.

A set of tables is a list of integers, in which each table is one bit. So a row is played with all tables at once.
"""

from poisonruns.errors import Impossible
from poisonruns.tables import Table, words_of

# One integer holds at most the 3 ** 7 tables that differ in seven signs: so it keeps below 900 digits.
BITS = 2187


def both(some, others):
    """The tables that are in both sets."""
    return [one & other for one, other in zip(some, others)]


def either(some, others):
    """The tables that are in one set or the other."""
    return [one | other for one, other in zip(some, others)]


def but(some, others):
    """The tables of the first set that are not in the other one."""
    return [one & ~other for one, other in zip(some, others)]


def ones(bits):
    """The number of the bits of an integer that are set."""
    digits = f"{bits:b}"
    return digits.count("1")


def size(tables):
    """The number of tables in a set."""
    return sum([ones(bits) for bits in tables])


def thirds(tables, bits):
    """The same tables, of so many bits in each integer, behind each of the three values of one more sign."""
    if bits < BITS:
        return [[some << bits * value for some in tables] for value in range(3)]
    none = [0] * len(tables)
    return [tables + none + none, none + tables + none, none + none + tables]


def thrice(tables, bits):
    """The same tables with any value of one more sign."""
    first, second, third = thirds(tables, bits)
    return either(either(first, second), third)


class Space:
    """All tables with these names and so many things."""

    def __init__(self, names, things):
        self.names = names
        self.things = things
        every, having, bits = [1], {}, 1
        for sign in [(name, thing, what) for name in names for thing in range(things) for what in ("does", "look")]:
            having = {other: [thrice(some, bits) for some in having[other]] for other in having}
            having[sign] = thirds(every, bits)
            every = thrice(every, bits)
            bits = min(3 * bits, BITS)
        self.every = every
        self.none = but(every, every)
        # For each sign three sets: the tables that have its first value, its second one, its third one.
        self._having = having

    def failing(self, row):
        """For each place of a row the set of the tables with which the test there fails."""
        held = [self.none] * self.things
        found = []
        for name in row:
            failing = self.none
            for thing in range(self.things):
                failing = either(failing, self._failing_by(name, thing, held[thing]))
            found.append(failing)
            held = [self._held_behind(name, thing, held[thing]) for thing in range(self.things)]
        return found

    def table(self, tables):
        """The first table of a set that has one."""
        at = [bits > 0 for bits in tables].index(True)
        one = [0] * len(tables)
        one[at] = tables[at] & -tables[at]
        return Table({name: [self._sign(name, thing, one) for thing in range(self.things)] for name in self.names})

    def _failing_by(self, name, thing, held):
        """The tables with which a test fails by a thing; `held` are those with which the thing is set."""
        _, on, off = self._having[name, thing, "look"]
        return either(both(on, held), but(off, held))

    def _held_behind(self, name, thing, held):
        """The tables with which a thing is set behind a test; `held` are those with which it is ahead of it."""
        sets, clears, _ = self._having[name, thing, "does"]
        return but(either(held, sets), clears)

    def _sign(self, name, thing, one):
        """What a test does with a thing and how it looks at it, with the only table of a set."""
        return (self._word(name, thing, "does", one), self._word(name, thing, "look", one))

    def _word(self, name, thing, what, one):
        having = self._having[name, thing, what]
        return [word for word, tables in zip(words_of(what), having) if any(both(one, tables))][0]


def wrong_of(space, run):
    """For each row of a run, and each place in it, the set of the tables that have another outcome there."""
    return [[but(space.every, failing) if failed else failing
             for (_, failed), failing in zip(row, space.failing(order))]
            for row, order in zip(run.rows, run.orders)]


def without_misses(space, most):
    """The sets of tables by their numbers of misses, up to so many, where nothing was seen yet."""
    return [space.every] + [space.none] * most


def moved(by_misses, wrong):
    """The sets of tables by their numbers of misses, where one more outcome is wrong with the tables `wrong`."""
    stay = [but(tables, wrong) for tables in by_misses]
    move = [both(tables, wrong) for tables in by_misses[:-1]]
    return stay[:1] + [either(one, other) for one, other in zip(stay[1:], move)]


def with_run(by_misses, wrong):
    """The sets of tables by their numbers of misses, where one more run was seen; `wrong` is told by `wrong_of`."""
    for row in wrong:
        for tables in row:
            by_misses = moved(by_misses, tables)
    return by_misses


def most_misses(evidence):
    """How many misses a table may have that explains an evidence."""
    # More slips than places are as good as one for each place.
    return min(evidence.slips, sum([len(run) for run in evidence.runs]))


def explaining(space, evidence):
    """The set of the tables of the space that explain an evidence with its names and things."""
    by_misses = without_misses(space, most_misses(evidence))
    for run in evidence.runs:
        by_misses = with_run(by_misses, wrong_of(space, run))
    found = space.none
    for tables in by_misses:
        found = either(found, tables)
    return found


class View:
    """The tables that explain an evidence, and what is sure with all of them."""

    def __init__(self, evidence):
        self.space = Space(evidence.names, evidence.things)
        self.tables = explaining(self.space, evidence)

    def ever(self, tables):
        """Whether one of a set of tables explains the evidence."""
        return any(both(self.tables, tables))

    def always(self, tables):
        """Whether no tables but those of a set explain the evidence."""
        return not any(but(self.tables, tables))

    def words(self, row):
        """For each place of a row how the test there comes out."""
        return tuple([self._word(failing) for failing in self.space.failing(row)])

    def passes(self, row):
        """Whether all tests of a row surely pass."""
        return not any([self.ever(failing) for failing in self.space.failing(row)])

    def _word(self, failing):
        """How a test comes out that fails with the tables `failing`."""
        if self.always(failing):
            return "fails"
        return "open" if self.ever(failing) else "passes"


def view_of(evidence):
    """The view of an evidence that some table has to explain."""
    view = View(evidence)
    if not any(view.tables):
        raise Impossible()
    return view
