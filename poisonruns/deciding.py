"""What is sure: what holds with all tables that explain an evidence, and what with some of them."""

from poisonruns.basics import check_rows
from poisonruns.space import View, both, but, either, size, view_of


def many(evidence):
    """The number of tables that explain the evidence."""
    return size(View(evidence).tables)


def table_for(evidence):
    """Some table that explains the evidence, or None."""
    view = View(evidence)
    return view.space.table(view.tables) if any(view.tables) else None


def outlook(evidence, rows):
    """For each place of the rows how the test comes out with every table that explains the evidence."""
    check_rows(rows, evidence.names)
    view = view_of(evidence)
    return tuple([view.words(row) for row in rows])


def surely(evidence, rows):
    """Whether all tests of the rows pass with every table that explains the evidence."""
    check_rows(rows, evidence.names)
    view = view_of(evidence)
    return all([view.passes(row) for row in rows])


def parting(evidence, rows):
    """Some pair of tables that explain the evidence and play the rows unlike, or None."""
    check_rows(rows, evidence.names)
    view = view_of(evidence)
    for row in rows:
        for failing in view.space.failing(row):
            if view.ever(failing) and not view.always(failing):
                one, other = both(view.tables, failing), but(view.tables, failing)
                return view.space.table(one), view.space.table(other)
    return None


def pairs_of(names):
    """All pairs of these names, those of a name with itself too."""
    return [(one, other) for one in names for other in names]


def poisoned(space, one, other):
    """The tables with which the other test passes alone, and fails right behind the one."""
    return but(space.failing([one, other])[1], space.failing([other])[0])


def healed(space, one, other):
    """The tables with which the other test fails alone, and passes right behind the one."""
    return but(space.failing([other])[0], space.failing([one, other])[1])


def bound(space, one, other):
    """The tables with which one of two tests comes out otherwise right behind the other one than alone."""
    behind = either(poisoned(space, one, other), healed(space, one, other))
    ahead = either(poisoned(space, other, one), healed(space, other, one))
    return either(behind, ahead)


def poisons(evidence):
    """The pairs of which the one test poisons the other with every table that explains the evidence."""
    view = view_of(evidence)
    return tuple([(one, other) for one, other in pairs_of(evidence.names)
                  if view.always(poisoned(view.space, one, other))])


def heals(evidence):
    """The pairs of which the one test heals the other with every table that explains the evidence."""
    view = view_of(evidence)
    return tuple([(one, other) for one, other in pairs_of(evidence.names)
                  if view.always(healed(view.space, one, other))])


def may_poison(evidence):
    """The pairs of which the one test poisons the other with some table that explains the evidence."""
    view = view_of(evidence)
    return tuple([(one, other) for one, other in pairs_of(evidence.names)
                  if view.ever(poisoned(view.space, one, other))])


def free(evidence):
    """The pairs, one ahead of the other by name, of which each test surely comes out as alone behind the other."""
    view = view_of(evidence)
    return tuple([(one, other) for one, other in pairs_of(evidence.names)
                  if one < other and not view.ever(bound(view.space, one, other))])
