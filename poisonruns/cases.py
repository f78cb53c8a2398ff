"""Cases: what is known of an outcome where only some signs were asked.

The asked signs are a dict from triples (name, thing, what) to words. The outcome is that of the last test of an order.
"""


def with_sign(asked, sign, word):
    """The asked signs with one more."""
    more = {other: asked[other] for other in asked}
    more[sign] = word
    return more


def is_set(asked, thing, order):
    """Whether a thing is set behind the tests of an order, or None if that is not known."""
    for name in order[::-1]:
        does = asked.get((name, thing, "does"))
        if does is None:
            return None
        if does != "leaves":
            return does == "sets"
    return False


def fails_by(asked, thing, order):
    """Whether the look at a thing lets the last test of an order fail, or None if that is not known."""
    look = asked.get((order[-1], thing, "look"))
    if look is None:
        return None
    if look == "never":
        return False
    held = is_set(asked, thing, order[:-1])
    return None if held is None else held == (look == "on")


def outcome(asked, things, order):
    """Whether the last test of an order fails, or None if that is not known."""
    # The signs for one thing tell nothing of those for the other: so one failing look is enough, and all are needed
    # to pass.
    told = [fails_by(asked, thing, order) for thing in range(things)]
    if True in told:
        return True
    return None if None in told else False


def next_sign(asked, things, order):
    """The sign that is to be asked next for an outcome that is not known."""
    told = [fails_by(asked, thing, order) for thing in range(things)]
    thing = told.index(None)
    # The nearest test that is not known to leave the thing decides whether it is set.
    signs = [(order[-1], thing, "look")] + [(name, thing, "does") for name in order[-2::-1]]
    return [sign for sign in signs if sign not in asked][0]
