"""Papers: trees of cases that show what is sure, and the check whether any value is such a tree."""

from poisonruns.basics import check_rows, is_integer
from poisonruns.cases import next_sign, outcome, with_sign
from poisonruns.space import View
from poisonruns.tables import words_of


def places_of(evidence):
    """For each place (run, row, place) of an evidence the order up to it, and whether its last test failed."""
    return {(at, line, place): (order[:place + 1], run.rows[line][place][1])
            for at, run in enumerate(evidence.runs) for line, order in enumerate(run.orders)
            for place in range(len(order))}


def is_triple(value):
    """Whether any value is a tuple of three integers."""
    return isinstance(value, tuple) and len(value) == 3 and all([is_integer(part) for part in value])


class Paper:
    """What a tree has to show: that a claim holds with all tables that explain an evidence.

    A claim is a pair: an order, and whether its last test fails. If it is None, there have to be no such tables.
    """

    def __init__(self, evidence, claim):
        self._names = evidence.names
        self._things = evidence.things
        self._slips = evidence.slips
        self._places = places_of(evidence)
        self._claim = claim

    def tree(self):
        """Some tree, where there is one."""
        return self._grown({}, [], list(self._places))

    def is_tree(self, value):
        """Whether any value is such a tree."""
        return self._holds({}, value)

    def _outcome(self, asked, order):
        """Whether the last test of an order fails, or None if that is not known from the asked signs."""
        return outcome(asked, self._things, order)

    def _is_so(self, asked):
        """Whether the claim is known to be right from the asked signs."""
        return self._claim is not None and self._outcome(asked, self._claim[0]) == self._claim[1]

    def _is_wrong(self, asked, place):
        """Whether the outcome at a place is known from the asked signs, and is not the one that was seen."""
        order, failed = self._places[place]
        return self._outcome(asked, order) == (not failed)

    def _grown(self, asked, wrong, places):
        """The tree below the asked signs.

        `wrong` are places that were already known not to be as seen, `places` those that were not known.
        """
        if self._is_so(asked):
            return ("so",)
        wrong = wrong + [place for place in places if self._is_wrong(asked, place)]
        if len(wrong) > self._slips:
            return ("not", tuple(wrong[:self._slips + 1]))
        left = [place for place in places if self._outcome(asked, self._places[place][0]) is None]
        sign = self._next(asked, left)
        trees = [self._grown(with_sign(asked, sign, word), wrong, left) for word in words_of(sign[2])]
        return ("ask", *sign, tuple(trees))

    def _next(self, asked, left):
        """The sign to ask next: for the claim, or if that is known, for the first of the places that are left."""
        orders = [self._places[place][0] for place in left]
        if self._claim is not None and self._outcome(asked, self._claim[0]) is None:
            orders = [self._claim[0]]
        return next_sign(asked, self._things, orders[0])

    def _holds(self, asked, value):
        """Whether any value is a tree below the asked signs."""
        if not isinstance(value, tuple):
            return False
        if len(value) == 5 and value[0] == "ask":
            return self._asks(asked, value[1:4], value[4])
        if len(value) == 2 and value[0] == "not":
            return self._refutes(asked, value[1])
        return value == ("so",) and self._is_so(asked)

    def _asks(self, asked, sign, trees):
        """Whether any values are a sign that was not asked, and the trees for it."""
        if not self._is_sign(sign) or sign in asked:
            return False
        if not isinstance(trees, tuple) or len(trees) != 3:
            return False
        return all([self._holds(with_sign(asked, sign, word), tree) for word, tree in zip(words_of(sign[2]), trees)])

    def _is_sign(self, sign):
        """Whether three values tell a sign that there is."""
        name, thing, what = sign
        if not is_integer(thing) or not 0 <= thing < self._things:
            return False
        return name in self._names and what in ("does", "look")

    def _refutes(self, asked, places):
        """Whether any value is places enough that are known not to be as seen."""
        if not isinstance(places, tuple) or not all([is_triple(place) for place in places]):
            return False
        if len(set(places)) < len(places) or len(places) <= self._slips:
            return False
        return all([place in self._places and self._is_wrong(asked, place) for place in places])


def claim_of(evidence, rows, row, place, word):
    """The claim that is made by four arguments."""
    check_rows(rows, evidence.names)
    return tuple(rows[row][:place + 1]), word == "fails"


def is_sure(view, order, failed):
    """Whether the last test of an order fails, or passes, with all tables of a view, of which there may be none."""
    failing = view.space.failing(order)[-1]
    return view.always(failing) if failed else not view.ever(failing)


def impossible(evidence):
    """Some tree that shows that no table explains the evidence, or None if some table does."""
    if any(View(evidence).tables):
        return None
    return Paper(evidence, None).tree()


def impossible_holds(evidence, value):
    """Whether any value is a tree that shows that no table explains the evidence."""
    return Paper(evidence, None).is_tree(value)


def sure(evidence, rows, row, place, word):
    """Some tree for a claim, or None if it does not hold with all tables that explain the evidence."""
    claim = claim_of(evidence, rows, row, place, word)
    if not is_sure(View(evidence), claim[0], claim[1]):
        return None
    return Paper(evidence, claim).tree()


def sure_holds(evidence, rows, row, place, word, value):
    """Whether any value is a tree for a claim."""
    return Paper(evidence, claim_of(evidence, rows, row, place, word)).is_tree(value)
