"""Point 20, and 1 to 3 as far as they speak of the module asking, against a plain count over all tables."""

import itertools
import unittest
from collections import Counter

from poisonruns.asking import best_row
from poisonruns.deciding import many
from poisonruns.errors import Impossible
from poisonruns.evidence import Evidence
from poisonruns.runs import Run
from tests.plain import explaining, outcomes, some_evidences
from tests.samples import raised

SEEN = Evidence.read("tests a b c\nthings 1 slips 0\na b!\nb | a\na c b")
TORN = Evidence.read("tests a\nthings 1 slips 0\na!\na")


def cases():
    """Evidences of one to three names with one thing, and of one and two names with two things."""
    texts = [
        "tests a b c\nthings 1 slips 0", "tests a b c\nthings 1 slips 2\na b!\nb | a\na c b",
        "tests a b c\nthings 1 slips 0\na b c | b c! | c\na c", "tests a b c\nthings 1 slips 0\na b! | b\na c b!",
        "tests a b c\nthings 1 slips 0\na | b | c\nb c\nc b\nb a\nc a", "tests a b\nthings 2 slips 1\na b!",
        "tests a b c\nthings 1 slips 0\na! b c!\nc | b | c b\nb c", "tests a b\nthings 1 slips 0\na b! b!\nb a! a!",
    ]
    yield from [Evidence.read(text) for text in texts]
    kinds = [(30, "a", 1), (50, "ab", 1), (40, ["ba", "abc", "b"], 1), (30, "z", 2), (3, "xy", 2)]
    for seed, (count, names, things) in enumerate(kinds):
        yield from some_evidences(seed + 400, count, list(names), things)


def rated(tables, names, longest):
    """All rows of different tests, each with the greatest number of tables that have one and the same outcome."""
    rows = [row for length in range(1, longest + 1) for row in itertools.permutations(sorted(names), length)]
    return [(max(Counter(outcomes(table, row) for table in tables).values()), len(row), row) for row in rows]


class Counted(unittest.TestCase):
    """Each case with the tables that explain it."""

    @classmethod
    def setUpClass(cls):
        found = [(evidence, explaining(evidence)) for evidence in cases()]
        cls.cases = [(evidence, tables) for evidence, tables in found if tables]
        cls.torn = [evidence for evidence, tables in found if not tables]

    def test_best_row(self):
        found = set()
        for evidence, tables in self.cases:
            for longest in (1, 2, 3):
                all_rated = rated(tables, evidence.names, longest)
                number, _, row = min(all_rated)
                told = best_row(evidence, longest)
                self.assertEqual(told, (row, number))
                self.assertEqual([type(part) for part in (told, *told)], [tuple, tuple, int])
                self.assertEqual(best_row(longest=longest, evidence=evidence), told)
                self.check_row(evidence, told, longest)
                same = [rate for rate in all_rated if rate[0] == number]
                shorter = min(len(other) for _, _, other in same) < max(len(other) for _, _, other in same)
                found.add((longest, len(row), shorter, row == evidence.names[:len(row)]))
        # A row of each length, for each limit; also where a longer one tells as much; also another than the first.
        self.assertLessEqual({(longest, length) for longest in (1, 2, 3) for length in range(1, longest + 1)},
                             {told[:2] for told in found})
        for length in (1, 2):
            self.assertLessEqual({(3, length, shorter, first) for shorter in (True, False)[:2 if length == 2 else 1]
                                  for first in (True, False)}, found)

    def check_row(self, evidence, told, longest):
        row, number = told
        self.assertLessEqual(len(row), longest)
        self.assertEqual(len(set(row)), len(row))
        self.assertLessEqual(set(row), set(evidence.names))
        self.assertLessEqual(number, many(evidence))
        self.assertGreaterEqual(number * 2 ** len(row), many(evidence))

    def test_impossible(self):
        self.assertGreater(len(self.torn), 10)
        for evidence in [*self.torn, TORN]:
            for longest in (1, 2, 3):
                self.assertIs(type(raised(best_row, evidence, longest)), Impossible)
                self.assertIs(type(raised(best_row, longest=longest, evidence=evidence)), Impossible)

    def test_the_same_again(self):
        for evidence, _ in self.cases[::4]:
            text = str(evidence)
            first = [best_row(evidence, longest) for longest in (1, 2, 3)]
            self.assertEqual([best_row(evidence, longest) for longest in (3, 2, 1)][::-1], first)
            self.assertEqual(str(evidence), text)


class Told(unittest.TestCase):
    def test_the_example(self):
        self.assertEqual(best_row(SEEN, 2), (("c",), 6))

    def test_a_longer_row_only_if_it_tells_more(self):
        self.assertEqual(best_row(SEEN, 1), (("c",), 6))
        told = [best_row(Evidence(list("abc")), longest) for longest in (1, 2, 3)]
        self.assertEqual([row for row, _ in told], [("a",), ("a", "b"), ("a", "b", "c")])
        # Each test passes alone with two looks of three; behind others it takes their signs, too.
        self.assertEqual(told[0], (("a",), 486))

    def test_all_is_known(self):
        # With each table a row comes out in the same way: so the shortest and first one is told.
        evidence = Evidence.read("tests a b\nthings 1 slips 0\na b! b!\nb a! a!")
        self.assertEqual(best_row(evidence, 3), (("a",), many(evidence)))

    def test_fewer_names_than_places(self):
        for names, row in [("a", ("a",)), ("q", ("q",))]:
            self.assertEqual(best_row(Evidence([names]), 3), (row, 6))
        self.assertEqual(len(best_row(Evidence(["b", "a"]), 3)[0]), 2)

    def test_slips_count_too(self):
        evidence = Evidence(["a"], [Run.read("a"), Run.read("a!")], 1, 1)
        self.assertEqual(best_row(evidence, 1), (("a",), 6))
        self.assertEqual(best_row(evidence.allowing(2), 2), (("a",), 6))

    def test_somewhat_beyond(self):
        evidence = Evidence(list("abcd"), [Run.read("a b! c | d")] * 9)
        row, number = best_row(evidence, 4)
        self.assertGreater(len(row), 1)
        self.assertLess(number, many(evidence))


class Limits(unittest.TestCase):
    def test_the_largest_evidence(self):
        table = {"a": (("sets", "never"),), "b": (("leaves", "on"),), "c": (("clears", "off"),)}
        rows = [list("abcabcba"), list("bbbacbac"), list("cbacbaab"), list("bacbacba")]
        evidence = Evidence(list("cba"), [Run([list(zip(row, outcomes(table, row))) for row in rows])] * 8, 1, 2)
        tables = explaining(evidence)
        number, _, row = min(rated(tables, "abc", 3))
        self.assertEqual(best_row(evidence, 3), (row, number))
