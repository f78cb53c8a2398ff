"""Tables: what each test does with each hidden thing, and how it looks at it."""

from poisonruns.basics import check_rows, is_name, items_of
from poisonruns.errors import InvalidTable, InvalidText, NoTest
from poisonruns.runs import Run

DOES = ("sets", "clears", "leaves")
LOOKS = ("never", "on", "off")
# "leaves" is not in it: the thing stays as it is.
TOUCHES = {"sets": True, "clears": False}


def words_of(what):
    """The three words for what a test "does" with a thing, or for its "look" at it."""
    return DOES if what == "does" else LOOKS


def is_sign(value):
    """Whether any value is a pair of what a test does with a thing and how it looks at it."""
    return isinstance(value, tuple) and len(value) == 2 and value[0] in DOES and value[1] in LOOKS


def are_signs(value):
    """Whether any value is the signs of a test, one for each thing."""
    signs = items_of(value)
    return len(signs) in (1, 2) and all([is_sign(sign) for sign in signs])


def wrong_word(signs):
    """The word that tells why any value is not the signs of a table, or None if it is."""
    if not isinstance(signs, dict) or len(signs) == 0:
        return "signs"
    if not all([is_name(name) and are_signs(told) for name, told in signs.items()]):
        return "signs"
    return "things" if len({len(told) for told in signs.values()}) > 1 else None


def signs_text(signs):
    """The text of the signs of one test."""
    return ", ".join([f"{does} {look}" for does, look in signs])


def read_line(line):
    """The name and the signs with the text `line`, if there are such; otherwise something that is none."""
    name, _, rest = line.partition(" ")
    return name, [read_sign(text) for text in rest.split(", ")]


def read_sign(text):
    """The sign with this text, if there is one; otherwise something that is no sign."""
    does, _, look = text.partition(" ")
    return (does, look)


def fails(signs, held):
    """Whether a test with these signs fails; `held` tells of each thing whether it is set."""
    return any([look == ("on" if is_set else "off") for (_, look), is_set in zip(signs, held)])


def touched(signs, held):
    """Of each thing whether it is set behind a test with these signs, where `held` tells so ahead of it."""
    return [TOUCHES.get(does, is_set) for (does, _), is_set in zip(signs, held)]


class Table:
    """The signs of all tests."""

    def __init__(self, signs):
        word = wrong_word(signs)
        if word is not None:
            raise InvalidTable(word)
        self.names = tuple(sorted(signs))
        self._signs = {name: tuple(signs[name]) for name in self.names}
        self.things = len(self._signs[self.names[0]])

    @classmethod
    def read(cls, text):
        """The table with this text, of which the lines may stand in any order."""
        signs = {}
        for at, line in enumerate(text.split("\n")):
            name, told = read_line(line)
            if name in signs or wrong_word({**signs, name: told}) is not None:
                raise InvalidText(at)
            signs[name] = told
        return cls(signs)

    def does(self, name, thing):
        """What a test does with a thing."""
        self._check(name)
        return self._signs[name][thing][0]

    def look(self, name, thing):
        """How a test looks at a thing."""
        self._check(name)
        return self._signs[name][thing][1]

    def play(self, rows):
        """The run of these rows, side by side."""
        check_rows(rows, self.names)
        return Run([self._played(row) for row in rows])

    def misses(self, run):
        """The number of places of the run with another outcome than that of the table."""
        played = self.play(run.orders)
        pairs = [pair for told, seen in zip(played.rows, run.rows) for pair in zip(told, seen)]
        return len([True for told, seen in pairs if told != seen])

    def poisons(self, one, other):
        """Whether the other test passes alone, and fails right behind the one."""
        return self._alone_and_behind(one, other) == (False, True)

    def heals(self, one, other):
        """Whether the other test fails alone, and passes right behind the one."""
        return self._alone_and_behind(one, other) == (True, False)

    def _check(self, name):
        if name not in self.names:
            raise NoTest(name)

    def _played(self, names):
        """One row as it goes: the pairs of a name and whether this test fails."""
        # Each worker has things of its own, and at the beginning none is set.
        held = [False] * self.things
        places = []
        for name in names:
            signs = self._signs[name]
            places.append((name, fails(signs, held)))
            held = touched(signs, held)
        return places

    def _alone_and_behind(self, one, other):
        """Whether the other test fails alone, and whether it fails right behind the one."""
        self._check(one)
        self._check(other)
        alone = self._played([other])
        behind = self._played([one, other])
        return alone[-1][1], behind[-1][1]

    def __contains__(self, name):
        return name in self.names

    def __len__(self):
        return len(self.names)

    def __eq__(self, other):
        # The signs tell the text, and the text tells the signs.
        return isinstance(other, Table) and self._signs == other._signs

    def __str__(self):
        return "\n".join([f"{name} {signs_text(self._signs[name])}" for name in self.names])
