"""Orders: in which all tests surely pass, where things have to be cleared, and which have each test behind each."""

from poisonruns.basics import check_rows, longer
from poisonruns.space import view_of


def safe_rows(evidence):
    """All rows of different tests that surely pass, shorter ones first, those of one length ascending."""
    view = view_of(evidence)
    found = []
    last = [()]
    for _ in evidence.names:
        # Only what passes can be the beginning of a longer row that passes.
        last = [row for row in longer(last, evidence.names) if view.passes(row)]
        found = found + last
    return found


def all_safe(evidence):
    """All orders of all tests that surely pass as one row, ascending."""
    return [row for row in safe_rows(evidence) if len(row) == len(evidence.names)]


def safe_order(evidence):
    """The first order of all tests that surely passes as one row, or None."""
    orders = all_safe(evidence)
    return orders[0] if orders else None


def safe_orders(evidence):
    """The number of the orders of all tests that surely pass as one row."""
    return len(all_safe(evidence))


def shortest(tuples):
    """The first of the shortest tuples, or None if there are none."""
    return min(tuples, key=lambda some: (len(some), some), default=None)


def clearings(evidence, order):
    """The first of the smallest sets of places at which things have to be cleared so that the row surely passes."""
    check_rows([order], evidence.names)
    view = view_of(evidence)
    # For each place: the clearings behind it if a new row begins there. Behind the last place there are none.
    best = {len(order): ()}
    for start in reversed(range(len(order))):
        ends = [end for end in best if view.passes(order[start:end])]
        found = shortest([cuts_from(end, order, best) for end in ends])
        if found is not None:
            best[start] = found
    return best.get(0)


def cuts_from(end, order, best):
    """The clearings if a row ends at this place and, if the order goes on, a new one begins there."""
    return best[end] if end == len(order) else (end, *best[end])


def longest_first(splitting):
    """The number of places in the longest row of a splitting, then the splitting."""
    return max([len(row) for row in splitting]), splitting


def apart(evidence, workers):
    """The first splitting of all tests into at most so many safe rows, with the fewest places in its longest row."""
    rows = safe_rows(evidence)
    names = list(evidence.names)
    found = [(row,) for row in rows if len(row) == len(names)]
    if workers == 2:
        found = found + [(one, other) for one in rows for other in rows
                         if one < other and sorted(one + other) == names]
    return min(found, key=longest_first, default=None)


def orders_of(names):
    """All orders of these names."""
    found = [()]
    for _ in names:
        found = longer(found, names)
    return found


def held_by(order, pairs):
    """The pairs of which the one stands directly before the other in an order."""
    return [pair for pair in zip(order, order[1:]) if pair in pairs]


def covering(pairs, orders, count):
    """At most so many of the orders that hold all the pairs, or None."""
    if not pairs:
        return []
    if count == 0:
        return None
    # What all the other orders together cannot hold is left for each one.
    least = len(pairs) - (count - 1) * (len(orders[0]) - 1)
    useful = [order for order in orders if len(held_by(order, pairs)) >= least]
    for order in useful:
        held = held_by(order, pairs)
        if pairs[0] in held:
            rest = covering([pair for pair in pairs if pair not in held], useful, count - 1)
            if rest is not None:
                return [order, *rest]
    return None


def near(names):
    """Some of the fewest orders so that each name stands directly before each other name in one of them."""
    pairs = [(one, other) for one in names for other in names if one != other]
    orders = orders_of(names)
    count = 0
    found = covering(pairs, orders, count)
    while found is None:
        count += 1
        found = covering(pairs, orders, count)
    return tuple(found)
