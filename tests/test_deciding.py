"""Points 12 to 14, and 1 to 3 as far as they speak of the module deciding, against a plain count over all tables."""

import itertools
import unittest

from poisonruns import deciding
from poisonruns.errors import Impossible, InvalidRows, NoTest
from poisonruns.evidence import Evidence
from poisonruns.runs import Run
from poisonruns.tables import Table
from tests.plain import all_tables, as_dict, explaining, fails, outcomes, some_evidences, some_rows, words
from tests.samples import BAD_NAMES, any_values, raised

SEEN = Evidence.read("tests a b c\nthings 1 slips 0\na b!\nb | a\na c b")
TORN = Evidence.read("tests a\nthings 1 slips 0\na!\na")


def cases():
    """Evidences of one to three names with one thing, and of one and two names with two things."""
    kinds = [(60, "a", 1), (60, "ab", 1), (40, ["ba", "abc", "b"], 1), (40, "z", 2), (6, ["y", "x"], 2)]
    for seed, (count, names, things) in enumerate(kinds):
        yield from some_evidences(seed, count, list(names), things)


class Counted(unittest.TestCase):
    """Each case with the tables that explain it, counted one by one."""

    @classmethod
    def setUpClass(cls):
        cls.cases = [(evidence, explaining(evidence)) for evidence in cases()]

    def test_the_cases_are_of_all_kinds(self):
        counts = [len(tables) for _, tables in self.cases]
        self.assertIn(0, counts)
        self.assertIn(1, counts)
        self.assertTrue(any(1 < count < 20 for count in counts))
        self.assertTrue(any(count > 200 for count in counts))
        self.assertEqual({evidence.slips for evidence, _ in self.cases}, {0, 1, 2})
        self.assertGreater(len([tables for evidence, tables in self.cases if evidence.slips and not tables]), 3)

    def test_many(self):
        for evidence, tables in self.cases:
            self.assertEqual(deciding.many(evidence), len(tables))
            self.assertIs(type(deciding.many(evidence=evidence)), int)

    def test_table_for(self):
        for evidence, tables in self.cases:
            table = deciding.table_for(evidence)
            if tables:
                self.assertIs(type(table), Table)
                self.assertIn(as_dict(table), tables)
                self.assertIs(evidence.explained(table), True)
                self.assertEqual(deciding.table_for(evidence=evidence), table)
            else:
                self.assertIsNone(table)

    def test_outlook(self):
        told = []
        for at, (evidence, tables) in enumerate(self.cases):
            rows = some_rows(at, evidence.names)
            if tables:
                due = tuple(words(tables, row) for row in rows)
                found = deciding.outlook(evidence, rows)
                self.assertEqual(found, due)
                self.assertEqual({type(part) for part in found}, {tuple})
                self.assertEqual(deciding.outlook(rows=tuple(tuple(row) for row in rows), evidence=evidence), due)
                told += [word for row in due for word in row]
        self.assertEqual(set(told), {"passes", "fails", "open"})

    def test_surely(self):
        found = []
        for at, (evidence, tables) in enumerate(self.cases):
            if tables:
                for rows in [some_rows(at, evidence.names), [evidence.names], [[name] for name in evidence.names]]:
                    due = all(not any(outcomes(table, row)) for table in tables for row in rows)
                    self.assertIs(deciding.surely(evidence, rows), due)
                    self.assertIs(deciding.surely(rows=rows, evidence=evidence), due)
                    found.append(due)
        self.assertEqual(set(found), {True, False})

    def test_parting(self):
        found = []
        for at, (evidence, tables) in enumerate(self.cases):
            rows = some_rows(at, evidence.names)
            if tables:
                unlike = len({tuple(outcomes(table, row) for row in rows) for table in tables}) > 1
                pair = deciding.parting(evidence, rows)
                found.append(pair is None)
                if unlike:
                    self.assertIs(type(pair), tuple)
                    one, other = pair
                    self.assertIn(as_dict(one), tables)
                    self.assertIn(as_dict(other), tables)
                    self.assertNotEqual(one.play(rows), other.play(rows))
                else:
                    self.assertIsNone(pair)
                self.assertEqual(deciding.parting(evidence=evidence, rows=rows), pair)
        self.assertEqual(set(found), {True, False})

    def check_pairs(self, call, quantor, due):
        found = []
        for evidence, tables in self.cases:
            if tables:
                pairs = itertools.product(evidence.names, repeat=2)
                told = tuple(pair for pair in pairs if quantor([due(table, *pair) for table in tables]))
                self.assertEqual(call(evidence), told)
                self.assertEqual(call(evidence=evidence), told)
                found += told
        self.assertTrue(found)
        self.assertTrue(any(one == other for one, other in found) or call is deciding.free)

    def test_poisons(self):
        self.check_pairs(deciding.poisons, all, poisons)

    def test_heals(self):
        self.check_pairs(deciding.heals, all, heals)

    def test_may_poison(self):
        self.check_pairs(deciding.may_poison, any, poisons)

    def test_free(self):
        self.check_pairs(deciding.free, all, lambda table, one, other: one < other and as_alone(table, one, other))

    def test_impossible(self):
        found = 0
        for at, (evidence, tables) in enumerate(self.cases):
            if not tables:
                rows = some_rows(at, evidence.names)
                found += 1
                for call in [deciding.outlook, deciding.surely, deciding.parting]:
                    self.assertIs(type(raised(call, evidence, rows)), Impossible)
                for call in [deciding.poisons, deciding.heals, deciding.may_poison, deciding.free]:
                    self.assertIs(type(raised(call, evidence)), Impossible)
        self.assertGreater(found, 10)

    def test_the_same_again(self):
        for evidence, tables in self.cases[::5]:
            if tables:
                text, rows = str(evidence), [list(evidence.names)]
                calls = [deciding.many, deciding.table_for, deciding.poisons, deciding.heals, deciding.may_poison,
                         deciding.free, *[lambda told, call=call: call(told, rows)
                                          for call in (deciding.outlook, deciding.surely, deciding.parting)]]
                first = [call(evidence) for call in calls]
                self.assertEqual([call(evidence) for call in calls[::-1]], first[::-1])
                self.assertEqual((str(evidence), rows), (text, [list(evidence.names)]))


def poisons(table, one, other):
    return fails(table, [one, other]) and not fails(table, [other])


def heals(table, one, other):
    return fails(table, [other]) and not fails(table, [one, other])


def as_alone(table, one, other):
    alone = (fails(table, [one]), fails(table, [other]))
    return outcomes(table, [one, other]) == alone and outcomes(table, [other, one]) == alone[::-1]


class Told(unittest.TestCase):
    def test_the_first_example(self):
        self.assertEqual(deciding.many(SEEN), 12)
        self.assertEqual(deciding.outlook(SEEN, [["c", "a", "b"], ["c"]]), (("open", "passes", "fails"), ("open",)))
        self.assertEqual((deciding.poisons(SEEN), deciding.heals(SEEN)), ((("a", "b"),), ()))

    def test_the_second_example(self):
        self.assertIs(deciding.surely(SEEN, [["b"], ["a", "c"]]), True)
        self.assertIs(deciding.surely(SEEN, [["b", "a"]]), False)
        self.assertIsNone(deciding.parting(SEEN, [["a", "b"]]))
        self.assertEqual(deciding.free(SEEN), ())
        self.assertNotEqual(deciding.may_poison(SEEN), deciding.poisons(SEEN))
        pair = deciding.parting(SEEN, [["c"]])
        self.assertEqual(sorted(str(table).split("\n")[2] for table in pair), ["c clears never", "c clears off"])

    def test_without_runs(self):
        for names, things in itertools.product(["a", "ab", "abc", "abcd"], [1, 2]):
            if things == 1 or len(names) < 3:
                evidence = Evidence(list(names), (), things)
                self.assertEqual(deciding.many(evidence), 9 ** (len(names) * things))
                self.assertEqual(deciding.outlook(evidence, [names[:1] and [names[0]] * 3]), (("open",) * 3,))
                self.assertEqual(deciding.may_poison(evidence), tuple(itertools.product(names, repeat=2)))
                for call in [deciding.poisons, deciding.heals, deciding.free]:
                    self.assertEqual(call(evidence), ())

    def test_with_two_things_all_tables_are_counted(self):
        # Failing alone asks for a look "off" of either thing: 81 tables less the 36 in which no look is.
        self.assertEqual(deciding.many(Evidence.read("tests a\nthings 2 slips 0\na!")), 45)
        self.assertEqual(deciding.many(Evidence.read("tests a b\nthings 2 slips 0\na!")), 45 * 81)

    def test_a_single_table(self):
        names = "abcd"
        for does, look in [("sets", "on"), ("sets", "off"), ("clears", "off")]:
            table = {name: (("sets", "never"),) for name in "abc"}
            table["d"] = ((does, look),)
            rows = [[*row, "d"] for row in itertools.product(names, repeat=2)]
            rows += [[one, other] for one in names for other in names] + [[name] for name in names]
            runs = [Run([list(zip(row, outcomes(table, row))) for row in rows])]
            evidence = Evidence(list(names), runs)
            self.assertEqual(deciding.many(evidence), len(explaining(evidence)))
            self.assertIn(as_dict(deciding.table_for(evidence)), explaining(evidence))
        self.assertEqual(deciding.many(Evidence.read("tests a\nthings 1 slips 0\na | a a!")), 1)
        self.assertEqual(str(deciding.table_for(Evidence.read("tests a\nthings 1 slips 0\na | a a!"))), "a sets on")

    def test_slips(self):
        text = "tests a\nthings 1 slips 0\na!\na\na | a\na"
        counts = [deciding.many(Evidence.read(text).allowing(slips)) for slips in range(7)]
        self.assertEqual(counts, [0, 6, 6, 6, 9, 9, 9])
        self.assertEqual(deciding.many(Evidence.read(text).allowing(10 ** 30)), 9)
        self.assertEqual(deciding.outlook(Evidence.read(text).allowing(1), [["a"]]), (("passes",),))

    def test_surely_of_several_rows(self):
        evidence = Evidence.read("tests a b\nthings 1 slips 0\na b!\na a")
        self.assertIs(deciding.surely(evidence, [["a"], ["a", "a"]]), True)
        self.assertIs(deciding.surely(evidence, [["a"], ["a", "b"]]), False)
        self.assertIs(deciding.surely(evidence, [["a", "b"], ["a"]]), False)

    def test_results_are_new_tuples(self):
        rows = [["a", "b"], ["c"]]
        found = deciding.outlook(SEEN, rows)
        rows[0].append("c")
        rows.append(["a"])
        self.assertEqual(found, (("passes", "fails"), ("open",)))


class Errors(unittest.TestCase):
    CALLS = (deciding.outlook, deciding.surely, deciding.parting)

    def check(self, rows, kind, word, told):
        for call in self.CALLS:
            for evidence in [Evidence(["a", "b"]), TORN.without(0).plus(Run.read("a!")), TORN]:
                with self.subTest(rows=rows, call=call):
                    error = raised(call, evidence, rows)
                    self.assertIs(type(error), kind)
                    self.assertEqual(getattr(error, word), told)

    def test_any_value(self):
        for value in [*any_values(), *BAD_NAMES, {0: ["a"]}, "a", {"a"}, range(2), iter([["a"]]), SEEN, TORN[0]]:
            self.check(value, InvalidRows, "at", 0)

    def test_wrong_rows(self):
        for value in [*any_values(), *BAD_NAMES, {"a": 1}, "a", {"a"}, ["a", "B"], [("a", True)], SEEN]:
            for at in range(3):
                self.check([["a"]] * at + [value], InvalidRows, "at", at)
                self.check((("z",),) * at + (value, ["b"]), InvalidRows, "at", at)
        for value in [*any_values(), *BAD_NAMES]:
            self.check([["a"], ["a", value]], InvalidRows, "at", 1)

    def test_names_that_are_not_there(self):
        self.check([["a", "z"]], NoTest, "name", "z")
        self.check([["a"], ["a", "zz", "y"], ["x"]], NoTest, "name", "zz")
        self.check((("aa",),), NoTest, "name", "aa")

    def test_the_order_of_errors(self):
        self.check([["z"], ["none"]], InvalidRows, "at", 1)
        self.check([["z"], ["a"], []], InvalidRows, "at", 2)
        for call in self.CALLS:
            self.assertIs(type(raised(call, TORN, [["a"]])), Impossible)
            self.assertIs(type(raised(call, TORN, [["b"]])), NoTest)
            self.assertIs(type(raised(call, TORN, [[]])), InvalidRows)
            self.assertIs(type(raised(call, evidence=TORN, rows=[["a"]])), Impossible)

    def test_no_error_of_many_and_table_for(self):
        self.assertEqual(deciding.many(TORN), 0)
        self.assertIsNone(deciding.table_for(TORN))


def full(names, things, slips, table):
    """An evidence as large as the limits allow: what a table plays, with one outcome otherwise for each slip."""
    rows = [[[names[(run * 5 + row * 3 + place * (row + 1) + place // 3) % len(names)] for place in range(8)]
             for row in range(4)] for run in range(8)]
    runs = [[[(name, failed) for name, failed in zip(row, outcomes(table, row))] for row in run] for run in rows]
    for at in range(slips):
        name, failed = runs[at][at][7]
        runs[at][at][7] = (name, not failed)
    return Evidence(names, [Run(run) for run in runs], things, slips)


class Limits(unittest.TestCase):
    def test_the_largest_evidence(self):
        four = {"a": (("sets", "never"),), "b": (("leaves", "on"),), "c": (("clears", "never"),),
                "d": (("leaves", "off"),)}
        two = {"a": (("sets", "never"), ("clears", "on")), "b": (("leaves", "on"), ("sets", "never"))}
        for told, things in [(four, 1), (two, 2)]:
            for slips in range(3):
                evidence = full(sorted(told), things, slips, told)
                tables = explaining(evidence)
                self.assertEqual(deciding.many(evidence), len(tables))
                self.assertIn(told, tables)
                rows = [run.orders[at] for at, run in enumerate(evidence.runs[:4])]
                self.assertEqual(deciding.outlook(evidence, rows), tuple(words(tables, row) for row in rows))
                self.assertIn(as_dict(deciding.table_for(evidence)), tables)
                self.assertEqual(deciding.many(evidence.allowing(10 ** 20)), 6561)

    def test_four_names(self):
        evidence = Evidence.read("tests a b c d\nthings 1 slips 1\na b! c\nd! a\nc d | b\nb d!")
        tables = explaining(evidence)
        rows = [["a", "c", "b"], ["d", "d", "a", "b"], ["b", "c", "d", "a"]]
        self.assertEqual(deciding.many(evidence), len(tables))
        self.assertEqual(deciding.outlook(evidence, rows), tuple(words(tables, row) for row in rows))

    def test_somewhat_beyond(self):
        self.assertEqual(deciding.many(Evidence(list("abcde"))), 9 ** 5)
        self.assertEqual(deciding.many(Evidence(list("abc"), (), 2)), 9 ** 6)
        run = "a | b c! a! b c! a! b c! a!"
        five = Evidence(list("abcde"), [Run.read(run)] * 12, 1, 3)
        three = explaining(Evidence(list("abc"), [Run.read(run)], 1, 0))
        self.assertEqual(deciding.many(five), 81 * len(three))
        self.assertGreater(len(three), 0)
        self.assertEqual(deciding.outlook(five, [["c", "b"] * 6]), (words(three, ["c", "b"] * 6),))
