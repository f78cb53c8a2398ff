"""Points 10 and 11, and 1 to 3 as far as they speak of evidence."""

import itertools
import unittest

from poisonruns.errors import InvalidEvidence, InvalidText, Mismatch, NoRun
from poisonruns.evidence import Evidence
from poisonruns.runs import Run
from poisonruns.tables import Table
from tests.plain import all_tables, as_dict, misses, some_evidences
from tests.samples import BAD_NAMES, GOOD_NAMES, any_values, raised

NAMES = ("a", "b", "cc", "ddd", "eeee", "z")
LINES = ("a b!", "b | a", "a! a! a!", "b! a b! | b | b! | a", "a", "b b b b b b b b!", "a", "b! | b!")


def shapes():
    """Names in some order, runs, things and slips, and the text that is due."""
    for count in range(1, 7):
        for turn, names in enumerate(itertools.islice(itertools.permutations(NAMES[:count]), 0, None, 37)):
            lines = LINES[:(turn * 3 + count) % 9] if count > 1 else [line for line in LINES if "b" not in line]
            things, slips = 1 + (turn + count) % 2, turn % 3
            text = "\n".join([" ".join(["tests", *sorted(names)]), f"things {things} slips {slips}", *lines])
            yield list(names), [Run.read(line) for line in lines], things, slips, text


class Made(unittest.TestCase):
    def check(self, evidence, names, runs, things, slips):
        self.assertIs(type(evidence), Evidence)
        self.assertEqual(evidence.names, tuple(sorted(names)))
        self.assertEqual(evidence.runs, tuple(runs))
        self.assertIs(type(evidence.names), tuple)
        self.assertIs(type(evidence.runs), tuple)
        self.assertEqual((evidence.things, evidence.slips), (things, slips))
        self.assertEqual((type(evidence.things), type(evidence.slips)), (int, int))
        self.assertEqual(len(evidence), len(runs))
        for at, run in enumerate(runs):
            self.assertEqual(evidence[at], run)

    def test_lists_and_tuples(self):
        for names, runs, things, slips, _ in shapes():
            self.check(Evidence(names, runs, things, slips), names, runs, things, slips)
            self.check(Evidence(tuple(names), tuple(runs), things, slips), names, runs, things, slips)
            self.check(Evidence(slips=slips, things=things, runs=runs, names=tuple(names)), names, runs, things, slips)

    def test_defaults(self):
        self.check(Evidence(["b", "a"]), ["a", "b"], [], 1, 0)
        self.check(Evidence(("a",), [Run.read("a!")]), ["a"], [Run.read("a!")], 1, 0)
        self.check(Evidence(names=["a"], slips=2), ["a"], [], 1, 2)
        self.check(Evidence(names=["a"], things=2), ["a"], [], 2, 0)

    def test_good_names(self):
        self.check(Evidence(GOOD_NAMES[:6]), GOOD_NAMES[:6], [], 1, 0)
        for name in GOOD_NAMES:
            self.check(Evidence([name]), [name], [], 1, 0)

    def test_later_changes_have_no_effect(self):
        for names, runs, things, slips, text in shapes():
            kept = list(names), list(runs)
            evidence = Evidence(names, runs, things, slips)
            self.assertEqual((names, runs), kept)
            names.append("new")
            names[0] = "other"
            runs.append(Run.read("new"))
            runs[0] = Run.read("zz")
            self.check(evidence, kept[0], kept[1], things, slips)
            self.assertEqual(str(evidence), text)

    def test_beyond_the_limits(self):
        names = list("abcdefghij")
        runs = [Run([[(name, True) for name in names] * 2] * 9)] * 20
        self.check(Evidence(names, runs, 2, 10 ** 30), names, runs, 2, 10 ** 30)

    def test_not_iterable(self):
        for evidence in [Evidence(["a"]), Evidence(["a"], [Run.read("a")] * 2)]:
            for call in [iter, list, tuple, set, sorted, lambda some: [*some], lambda some: Run.read("a") in some]:
                self.assertRaises(TypeError, call, evidence)


class Wrong(unittest.TestCase):
    def check(self, word, *args, **more):
        with self.subTest(args=args, more=more):
            error = raised(Evidence, *args, **more)
            self.assertIs(type(error), InvalidEvidence)
            self.assertEqual(error.word, word)

    def test_any_value_as_names(self):
        for value in [*any_values(), *BAD_NAMES, "a", "ab", {"a": 1}, {"a"}, range(1), iter(["a"])]:
            self.check("names", value)
            self.check("names", names=value, runs=3, things=3, slips=-1)

    def test_wrong_names(self):
        for value in [*BAD_NAMES, *any_values(), ("a", True), ["a"]]:
            self.check("names", [value])
            self.check("names", ["a", value, "b"])
            self.check("names", ("b", "a", value))

    def test_equal_names(self):
        self.check("names", ["a", "a"])
        self.check("names", ("b", "a", "c", "b"))

    def test_any_value_as_runs(self):
        wrong = [value for value in any_values() if value not in ([], ()) and value != [Run.read("a!")]]
        for value in [*wrong, "a", Run.read("a"), Evidence(["a"]), {"a": Run.read("a")}, iter([Run.read("a")]), {1}]:
            self.check("runs", ["a"], value)
            self.check("runs", names=["a"], runs=value, things=3, slips=-1)

    def test_wrong_runs(self):
        wrong = [value for value in any_values() if value != Run.read("a!")]
        for value in [*wrong, "a", [[("a", True)]], [("a", True)], Run]:
            self.check("runs", ["a"], [value])
            self.check("runs", ["a"], (Run.read("a"), value, Run.read("a")))

    def test_a_run_with_another_test(self):
        self.check("runs", ["a"], [Run.read("b")])
        self.check("runs", ["a", "b"], [Run.read("a b"), Run.read("a | b | a aa!")], 1, 0)
        self.check("runs", ["aa", "b"], (Run.read("a b"),), 5, None)

    def test_things(self):
        for value in [*any_values(), 3, 2 ** 70, "1", "2", 1.0, 2.0, [1], (2,), b"1"]:
            if value is not True and value in (1, 2) and isinstance(value, int):
                continue
            self.check("things", ["a"], [], value)
            self.check("things", ["a"], [Run.read("a")], value, -1)
            self.check("things", names=["a"], things=value, slips="x")

    def test_slips(self):
        for value in [*any_values(), -2, -10 ** 30, "0", "1", 0.0, 1.5, [0], (1,), b"0"]:
            if isinstance(value, int) and not isinstance(value, bool) and value >= 0:
                self.assertEqual(Evidence(["a"], [], 1, value).slips, value)
            else:
                self.check("slips", ["a"], [], 1, value)
                self.check("slips", names=["a"], slips=value)


class Others(unittest.TestCase):
    """What makes another evidence of one: plus, without, allowing and +; and the index."""

    def setUp(self):
        self.elder = Evidence(["b", "a"], [Run.read("a b!"), Run.read("b")], 2, 1)
        self.text = "tests a b\nthings 2 slips 1\na b!\nb"
        self.assertEqual(str(self.elder), self.text)

    def tearDown(self):
        self.assertEqual(str(self.elder), self.text)
        self.assertEqual((len(self.elder), self.elder.slips), (2, 1))

    def test_plus(self):
        self.assertEqual(str(self.elder.plus(Run.read("a!"))), self.text + "\na!")
        self.assertEqual(str(self.elder.plus(run=Run.read("b | b")).plus(Run.read("a"))), self.text + "\nb | b\na")
        self.assertIs(type(self.elder.plus(Run.read("a"))), Evidence)

    def test_plus_what_is_no_such_run(self):
        others = [Run.read("c"), Run.read("a b | b aa"), self.elder, [Run.read("a")]]
        for value in [*any_values(), "a", [("a", True)], *others]:
            if value == Run.read("a!"):
                continue
            for call in [lambda: self.elder.plus(value), lambda: self.elder.plus(run=value)]:
                error = raised(call)
                self.assertIs(type(error), InvalidEvidence)
                self.assertEqual(error.word, "runs")

    def test_without(self):
        self.assertEqual(str(self.elder.without(0)), "tests a b\nthings 2 slips 1\nb")
        self.assertEqual(str(self.elder.without(at=1)), "tests a b\nthings 2 slips 1\na b!")
        self.assertEqual(str(self.elder.without(1).without(0)), "tests a b\nthings 2 slips 1")

    def test_without_every_run(self):
        for names, runs, things, slips, text in shapes():
            evidence = Evidence(names, runs, things, slips)
            for at in range(len(runs)):
                lines = text.split("\n")
                del lines[at + 2]
                self.assertEqual(str(evidence.without(at)), "\n".join(lines))

    def test_no_run(self):
        for evidence in [self.elder, Evidence(["a"])]:
            for at in [-1, -2, -3, 2, 3, 100, 10 ** 30, -10 ** 30, len(evidence), -len(evidence) - 1]:
                for call in [evidence.without, lambda some: evidence[some]]:
                    error = raised(call, at)
                    self.assertIs(type(error), NoRun)
                    self.assertIs(error.at, at)
                self.assertIs(raised(evidence.without, at=at).at, at)

    def test_index(self):
        self.assertEqual((str(self.elder[0]), str(self.elder[1])), ("a b!", "b"))
        self.assertIs(type(self.elder[0]), Run)

    def test_allowing(self):
        self.assertEqual(str(self.elder.allowing(0)), self.text.replace("slips 1", "slips 0"))
        self.assertEqual(str(self.elder.allowing(slips=7)), self.text.replace("slips 1", "slips 7"))
        self.assertEqual(self.elder.allowing(1), self.elder)

    def test_allowing_what_is_no_number(self):
        for value in [*any_values(), -2, "1", None, 1.0, self.elder]:
            if isinstance(value, int) and not isinstance(value, bool) and value >= 0:
                continue
            for call in [lambda: self.elder.allowing(value), lambda: self.elder.allowing(slips=value)]:
                error = raised(call)
                self.assertIs(type(error), InvalidEvidence)
                self.assertEqual(error.word, "slips")

    def test_sum(self):
        other = Evidence(("a", "b"), (Run.read("a!"), Run.read("b")), 2, 1)
        self.assertEqual(str(self.elder + other), self.text + "\na!\nb")
        self.assertEqual(str(other + self.elder), "tests a b\nthings 2 slips 1\na!\nb\na b!\nb")
        self.assertEqual(len(other), 2)
        self.assertEqual(self.elder + Evidence(["a", "b"], [], 2, 1), self.elder)
        self.assertIs(type(self.elder + other), Evidence)

    def test_in_place(self):
        grown = self.elder
        grown += Evidence(["a", "b"], [Run.read("a")], 2, 1)
        self.assertEqual(str(grown), self.text + "\na")
        self.assertIsNot(grown, self.elder)

    def test_mismatch(self):
        runs = [Run.read("a")]
        wrong = [Evidence(["a"], runs, 2, 1), Evidence(["a", "b", "c"], runs, 2, 1), Evidence(["a", "c"], runs, 2, 1),
                 Evidence(["a", "b"], runs, 1, 1), Evidence(["a", "b"], runs, 2, 0), Evidence(["a", "b"], runs, 2, 2)]
        for other in wrong:
            for one, two in [(self.elder, other), (other, self.elder)]:
                self.assertIs(type(raised(lambda: one + two)), Mismatch)

    def test_no_evidence(self):
        for value in any_values() + ["a", {}]:
            with self.subTest(value=value):
                if not isinstance(value, Evidence):
                    self.assertRaises(TypeError, lambda: self.elder + value)
                    self.assertRaises(TypeError, lambda: value + self.elder)


class Explained(unittest.TestCase):
    def test_every_table(self):
        for names, things, count in [("a", 1, 40), ("ab", 1, 40), ("a", 2, 20), ("ab", 2, 2)]:
            for evidence in some_evidences(names + str(things), count, names, things):
                for told in all_tables(names, things):
                    due = misses(told, evidence) <= evidence.slips
                    self.assertIs(evidence.explained(Table(told)), due)

    def test_the_sum_over_all_runs(self):
        table = Table({"a": [("leaves", "never")]})
        for count in range(5):
            for slips in range(5):
                evidence = Evidence(["a"], [Run.read("a! a | a")] * count, 1, slips)
                self.assertIs(evidence.explained(table=table), count <= slips)
                self.assertEqual(as_dict(table), {"a": (("leaves", "never"),)})

    def test_another_table(self):
        for evidence in [Evidence(["a", "b"], [Run.read("a")], 1, 9), Evidence(["a", "b"], [Run.read("a")], 1, 0)]:
            self.assertIs(evidence.explained(Table.read("a leaves never\nb leaves on")), True)
            for text in ["a leaves never", "b leaves never", "a leaves never\nc leaves never",
                         "a leaves never\nb leaves never\nc leaves never",
                         "a leaves never, leaves never\nb leaves never, leaves never"]:
                self.assertIs(evidence.explained(Table.read(text)), False)
        two = Evidence(["a"], [], 2)
        self.assertIs(two.explained(Table.read("a leaves never")), False)
        self.assertIs(two.explained(Table.read("a leaves never, sets on")), True)


class Texts(unittest.TestCase):
    def test_text(self):
        for names, runs, things, slips, text in shapes():
            evidence = Evidence(names, runs, things, slips)
            self.assertEqual(str(evidence), text)
            read = Evidence.read(text)
            self.assertIs(type(read), Evidence)
            self.assertEqual(read, evidence)
            self.assertEqual((read.names, read.runs), (tuple(sorted(names)), tuple(runs)))
            self.assertEqual((read.things, read.slips), (things, slips))
            _, *lines = text.split("\n")
            self.assertEqual(str(Evidence.read(text="\n".join([" ".join(["tests", *names]), *lines]))), text)

    def test_numbers(self):
        for slips in [*range(12), 20, 98, 99]:
            evidence = Evidence.read(f"tests a\nthings 2 slips {slips}")
            self.assertEqual((evidence.slips, evidence.things, len(evidence)), (slips, 2, 0))
            self.assertIs(type(evidence.slips), int)

    def check(self, text, at):
        for call in [lambda: Evidence.read(text), lambda: Evidence.read(text=text)]:
            with self.subTest(text=text):
                error = raised(call)
                self.assertIs(type(error), InvalidText)
                self.assertIs(type(error.at), int)
                self.assertEqual(error.at, at)

    NAMES = ["", " ", "tests", "tests ", "tests a ", " tests a", "tests  a", "tests a  b", "Tests a", "test a", "a b",
             "tests a a", "tests b a b", "tests none", "tests a none", "tests a abcde", "tests A", "tests a!",
             "tests a, b", "tests a | b", "tests\ta", "testsa", "tests a\r", "tests \u00e4", "tests a1", "tests tests",
             "two tests a",
             "things 1 slips 0"]
    NUMBERS = ["", " ", "things", "things 1", "things 1 slips", "things 1 slips ", "slips 0", "things 0 slips 0",
               "things 3 slips 0", "things 1 slips 00", "things 1 slips 01", "things 01 slips 1", "things 1 slips 100",
               "things 1 slips 007", "things 1 slips -1", "things 1 slips +1", "things 1 slips 1 ", " things 1 slips 1",
               "things  1 slips 1", "things 1  slips 1", "things 1 slips  1", "things 1 slips 1 1", "Things 1 slips 0",
               "things 1 Slips 0", "slips 0 things 1", "things 1, slips 0", "things one slips 0", "things 1 slips zero",
               "things 1 slips 1.0", "things 1 slips \u00b2", "things \u00b9 slips 0", "things 1 slips \u0663",
               "things 12 slips 0", "things 1 slips 1_0", "things 1 slips 0x", "things 1 slips a", "things 1 slips 0\r",
               "a b!", "things 10 slips 0", "things 21 slips 0", "things  slips 0", "things 1 slips 1e"]
    RUNS = ["", " ", "a ", " a", "a  b", "c", "a b c", "a | c!", "aa", "a |", "| a", "a | | b", "a|b", "a !", "a!!",
            "!a", "none", "A", "a\tb", "a\r", "a, b", "tests a b", "things 1 slips 0", "a b! |"]

    def test_wrong_names(self):
        for line in self.NAMES:
            for rest in ["", "\nthings 1 slips 0", "\nthings 1 slips 0\na", "\nthings 5 slips 0\n", "\n\n"]:
                self.check(line + rest, 0)

    def test_wrong_numbers(self):
        for line in self.NUMBERS:
            for rest in ["", "\na", "\nb a!\n", "\nc"]:
                self.check("tests b a\n" + line + rest, 1)

    def test_wrong_runs(self):
        for line in self.RUNS:
            for at, ahead in enumerate(["", "\na b", "\na b!\na | b", "\na\na\na"]):
                for rest in ["", "\na", "\nc", "\n"]:
                    self.check("tests b a\nthings 2 slips 0" + ahead + "\n" + line + rest, at + 2)

    def test_too_few_lines(self):
        self.check("tests a", 1)
        self.check("tests b a", 1)
        self.check("", 0)

    def test_a_line_too_many(self):
        self.check("tests a\nthings 1 slips 0\n", 2)
        self.check("tests a\nthings 1 slips 0\na\n", 3)
        self.check("tests a\n\nthings 1 slips 0", 1)
        self.check("\ntests a\nthings 1 slips 0", 0)

    def test_a_long_text(self):
        text = "tests a b\nthings 1 slips 2" + "\n" + "\n".join(["a b! a b! a b! a b! | b b b | a | a a a a"] * 20)
        self.assertEqual(str(Evidence.read(text)), text)


class Equal(unittest.TestCase):
    def test_by_text(self):
        made = [Evidence(names, runs, things, slips) for names, runs, things, slips, _ in shapes()]
        made += [Evidence(["a", "b"], [Run.read("a")], 1, 0), Evidence(("b", "a"), (Run.read("a"),), 1, 0),
                 Evidence(["a", "b"], [Run.read("a!")]), Evidence(["a", "b"], [Run.read("a"), Run.read("a")]),
                 Evidence(["a", "b"], [Run.read("a"), Run.read("b")]),
                 Evidence(["a", "b"], [Run.read("b"), Run.read("a")]),
                 Evidence(["a", "b"], [Run.read("a | b")]), Evidence(["a", "b"], [Run.read("a b")]),
                 Evidence(["a", "c"], [Run.read("a")]), Evidence(["a", "b"], [Run.read("a")], 2),
                 Evidence(["a", "b"], [Run.read("a")], 1, 1), Evidence(["a"], [Run.read("a")])]
        for one in made:
            for other in made:
                self.assertIs(one == other, str(one) == str(other))
                self.assertIs(one != other, str(one) != str(other))

    def test_to_nothing_else(self):
        evidence = Evidence(["a"], [Run.read("a!")])
        for value in [*any_values(), str(evidence), evidence.runs, evidence.names, {"a": 1}, Table.read("a sets on")]:
            if not isinstance(value, Evidence):
                self.assertIs(evidence == value, False)
                self.assertIs(value == evidence, False)
                self.assertIs(evidence != value, True)

    def test_the_same_again(self):
        for names, runs, things, slips, text in shapes():
            evidence = Evidence(names, runs, things, slips)
            evidence.allowing(5), evidence + evidence, evidence.plus(Run.read(names[0])), Evidence.read(text)
            self.assertEqual(evidence, Evidence(names, runs, things, slips))
            self.assertEqual(str(evidence), str(evidence))
