"""Desks: a bench that is told what to do by commands."""

from poisonruns.bench import Bench
from poisonruns.deciding import heals, many, outlook, poisons
from poisonruns.errors import InvalidCommand
from poisonruns.evidence import Evidence, is_number
from poisonruns.orders import safe_order
from poisonruns.runs import Run, read_rows


def words_in(command):
    """The words of any value as a command."""
    words = command.split(" ") if isinstance(command, str) else [""]
    if "" in words or "\n" in command:
        raise InvalidCommand()
    return words


def rows_in(words):
    """The rows of names that these words tell, of which each `|` parts two."""
    rows = [[]]
    for word in words:
        if word == "|":
            rows.append([])
        else:
            rows[-1].append(word)
    if not all([len(row) > 0 for row in rows]):
        raise InvalidCommand()
    return rows


def pairs_text(pairs):
    """The text of pairs of names, of which there may be none."""
    return ", ".join([f"{one} {other}" for one, other in pairs]) if pairs else "none"


def say_many(bench):
    """How many tables explain the evidence."""
    return str(many(bench.evidence))


def say_poisons(bench):
    """The pairs of which the one test surely poisons the other."""
    return pairs_text(poisons(bench.evidence))


def say_heals(bench):
    """The pairs of which the one test surely heals the other."""
    return pairs_text(heals(bench.evidence))


def say_order(bench):
    """The first order of all tests that surely passes."""
    order = safe_order(bench.evidence)
    return "none" if order is None else " ".join(order)


def say_undo(bench):
    """Takes back the last deed."""
    return "undone" if bench.undo() else "nothing"


def say_seen(bench, words):
    """Adds the run that these words tell."""
    bench.see(Run(read_rows(" ".join(words))))
    return "seen"


def say_allow(bench, words):
    """Sets the slips to the number that the only word tells."""
    if len(words) > 1 or not is_number(words[0]):
        raise InvalidCommand()
    bench.allow(int(words[0]))
    return "allowed"


def say_outlook(bench, words):
    """How the rows that these words tell come out."""
    told = outlook(bench.evidence, rows_in(words))
    return " | ".join([" ".join(row) for row in told])


# The commands of one word, and those with more words behind the first.
ALONE = {"many": say_many, "poisons": say_poisons, "heals": say_heals, "order": say_order, "undo": say_undo}
MORE = {"seen": say_seen, "allow": say_allow, "outlook": say_outlook}


class Desk:
    """Does commands on a bench."""

    def __init__(self):
        self.bench = None

    def say(self, command):
        """Does a command, and tells what it says."""
        word, *rest = words_in(command)
        if word == "tests" and rest:
            return self._begin(rest, 1)
        if word == "two" and rest[:1] == ["tests"] and len(rest) > 1:
            return self._begin(rest[1:], 2)
        if self.bench is None:
            raise InvalidCommand()
        if word in ALONE and not rest:
            answer = ALONE[word]
            return answer(self.bench)
        if word in MORE and rest:
            answer_to = MORE[word]
            return answer_to(self.bench, rest)
        raise InvalidCommand()

    def _begin(self, names, things):
        """Makes a new bench without runs."""
        self.bench = Bench(Evidence(names, (), things))
        return str(len(names))
