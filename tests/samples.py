"""Values of every kind for the tests, and small helpers."""

from poisonruns import errors
from poisonruns.bench import Bench
from poisonruns.desk import Desk
from poisonruns.evidence import Evidence
from poisonruns.runs import Run
from poisonruns.tables import Table


def nested(depth, value, kind):
    """The value, inside so many lists or tuples."""
    for _ in range(depth):
        value = kind([value])
    return value


def seeing_bench():
    """A bench that has done something."""
    bench = Bench(Evidence(["a"]))
    bench.see(Run([[("a", True)]]))
    return bench


def any_values():
    """Values of every kind that "any value" means, made anew. None of them is a name, a row or a sequence of rows."""
    return [
        0, 1, -1, 7, 10 ** 30, True, False, None,
        "", "none", "abcde", "A", "Ab", "a1", "a b", "a!", " a", "a ", "a\n", "\n", "|", "!", "_", "never", "nones",
        "\u00e4", "\u00df", "\u0131", "\u0430",
        [], (), [[]], [()], ((),), ([],), [None], (0,), ["none"], [("a", None)], [("a", 1)], [[("a", 1)]], ["a", 3, True],
        nested(8, "a", list), nested(8, "a", tuple), nested(7, [], tuple),
        Run([[("a", True)]]), Table({"a": [("sets", "on")]}), [Run([[("a", True)]])], (Table({"a": [("sets", "on")]}),),
        Evidence(["a"]), [Evidence(["a"], [Run([[("a", True)]])])], (Evidence(["b", "a"], (), 2, 1),),
        Bench(Evidence(["a"])), seeing_bench(), [seeing_bench()], seeing_bench().trial(), Desk(), (Desk(),),
        errors.PoisonError(), errors.Impossible(), errors.InvalidRun(3), errors.NoTest("a"), [errors.NoRun(1)],
    ]


BAD_NAMES = ["", "none", "abcde", "zzzzz", "A", "aB", "a1", "1", "a!", "a b", " a", "a ", "a\n", "\n", "a|", "|", "!",
             "-", "_", "a_", "\u00e4", "a\u00e4", "\u0131", "\u0430", "\u00aa", "nones"]
GOOD_NAMES = ["a", "z", "az", "abc", "zzzz", "non", "nono", "on", "off", "sets", "e", "noen"]


def raised(call, *args, **more):
    """The error of the package that the call raises, or None; another error goes on."""
    try:
        call(*args, **more)
    except (errors.PoisonError, errors.NoRun, errors.NoTest) as error:
        return error
    return None
