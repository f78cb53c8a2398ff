"""Point 19, and 1 to 3 as far as they speak of the module blame, against a plain count over all tables."""

import itertools
import random
import unittest

from poisonruns.blame import chance, conflict, least_slips
from poisonruns.evidence import Evidence
from poisonruns.runs import Run
from tests.plain import SIGNS, all_tables, fails, outcomes, places, some_evidences

SEEN = Evidence.read("tests a b c\nthings 1 slips 0\na b!\nb | a\na c b")
TORN = Evidence.read("tests a\nthings 1 slips 0\na!\na")


def turned_evidences(seed, count, names, things):
    """Evidences of one table of which a few outcomes are turned about, with runs that are there twice."""
    luck = random.Random(seed)
    for _ in range(count):
        table = {name: tuple(luck.choice(SIGNS) for _ in range(things)) for name in names}
        rows = [[luck.choice(names) for _ in range(luck.choice([1, 2, 3, 4]))] for _ in range(luck.choice([2, 4, 6]))]
        turned = luck.sample(range(len(rows)), luck.choice([0, 1, 2]))
        runs = []
        for at, row in enumerate(rows):
            wrong = luck.randrange(len(row)) if at in turned else None
            told = [(name, failed != (place == wrong)) for place, (name, failed) in
                    enumerate(zip(row, outcomes(table, row)))]
            runs.append(Run([told]))
        runs += luck.sample(runs, luck.choice([0, 1, 2]))
        yield Evidence(list(names), luck.sample(runs, len(runs)), things, luck.choice([0, 0, 1, 2]))


def told_evidences():
    texts = [
        "tests a\nthings 1 slips 0", "tests a b\nthings 2 slips 2", "tests a\nthings 1 slips 0\na | a!",
        "tests a\nthings 1 slips 0\na!\na\na | a!", "tests a\nthings 1 slips 1\na\na!\na\na!",
        "tests a\nthings 1 slips 1\na | a!\na | a!", "tests a\nthings 1 slips 2\na | a! | a | a! | a | a!\na",
        "tests a b\nthings 1 slips 0\na b!\na b!\nb!\na b", "tests a b\nthings 1 slips 0\nb\nb\nb!",
        "tests a b\nthings 1 slips 0\nb b a! a\na! | b\nb a! a", "tests a b\nthings 1 slips 9\na | a! | b\nb!",
        # Any two of these three runs are explained: only with the first one the second one tells that `a` sets.
        "tests a b\nthings 1 slips 0\nb\na! b!\na! a!",
        "tests a b\nthings 1 slips 2\na!\nb | b | b\na! b! | a! b! | a! b!\na! a! | a! a! | a! a!",
    ]
    yield from [Evidence.read(text) for text in texts]


def cases():
    """Evidences of one to three names with one thing, and of one and two names with two things."""
    yield from told_evidences()
    kinds = [(40, "a", 1), (40, "ab", 1), (15, "abc", 1), (30, "z", 2), (3, "xy", 2)]
    for seed, (count, names, things) in enumerate(kinds):
        yield from some_evidences(seed + 200, count, list(names), things)
        yield from turned_evidences(seed + 300, count, names, things)


def missed_places(evidence):
    """For each table the places (run, row, place) at which it has another outcome."""
    seen = list(places(evidence).items())
    return [tuple(place for place, (order, failed) in seen if fails(table, order) != failed)
            for table in all_tables(evidence.names, evidence.things)]


def torn_runs(evidence, missed):
    """The first of the smallest sets of runs that no table explains."""
    counts = {tuple([at for at, _, _ in found].count(run) for run in range(len(evidence))) for found in missed}
    for size in range(len(evidence) + 1):
        for numbers in itertools.combinations(range(len(evidence)), size):
            if all(sum(count[at] for at in numbers) > evidence.slips for count in counts):
                return numbers
    return None


class Counted(unittest.TestCase):
    """Each case with the places that each table misses."""

    @classmethod
    def setUpClass(cls):
        cls.cases = [(evidence, missed_places(evidence)) for evidence in cases()]

    def test_least_slips(self):
        found = set()
        for evidence, missed in self.cases:
            least = least_slips(evidence)
            self.assertEqual(least, min(map(len, missed)))
            self.assertIs(type(least), int)
            self.assertEqual(least_slips(evidence=evidence), least)
            found.add(least)
        self.assertLessEqual({0, 1, 2, 3, 4}, found)

    def test_least_slips_whatever_slips_the_evidence_has(self):
        found = set()
        for evidence, missed in self.cases:
            for slips in (0, 1, 2, 50):
                self.assertEqual(least_slips(evidence.allowing(slips)), min(map(len, missed)))
                self.assertEqual(chance(evidence.allowing(slips)), chance(evidence))
            found.add(evidence.slips < min(map(len, missed)))
        self.assertEqual(found, {True, False})

    def test_conflict(self):
        found = set()
        for evidence, missed in self.cases:
            due = torn_runs(evidence, missed)
            self.assertEqual(conflict(evidence), due)
            self.assertEqual(conflict(evidence=evidence), due)
            self.assertIs(type(conflict(evidence)), type(due))
            found.add((evidence.slips, due and len(due)))
        self.assertLessEqual(set(itertools.product((0, 1, 2), (None, 1, 2, 3))), found)

    def test_conflict_with_other_slips(self):
        for evidence, missed in self.cases[::3]:
            for slips in (0, 1, 2, 3):
                other = evidence.allowing(slips)
                self.assertEqual(conflict(other), torn_runs(other, missed))

    def test_chance(self):
        found = set()
        for evidence, missed in self.cases:
            least = min(map(len, missed))
            common = set.intersection(*[set(wrong) for wrong in missed if len(wrong) == least])
            due = tuple(sorted(common))
            self.assertEqual(chance(evidence), due)
            self.assertEqual(chance(evidence=evidence), due)
            self.assertIs(type(chance(evidence)), tuple)
            self.assertEqual({type(triple) for triple in chance(evidence)} - {tuple}, set())
            found.add((min(least, 2), min(len(due), 2)))
        self.assertEqual(found, {(0, 0), (1, 0), (1, 1), (2, 0), (2, 1), (2, 2)})

    def test_what_belongs_together(self):
        for evidence, _ in self.cases:
            least = least_slips(evidence)
            self.assertEqual(conflict(evidence) is None, least <= evidence.slips)
            self.assertIsNone(conflict(evidence.allowing(least)))
            self.assertLessEqual(len(chance(evidence)), least)

    def test_the_same_again(self):
        for evidence, _ in self.cases[::4]:
            text = str(evidence)
            first = [least_slips(evidence), conflict(evidence), chance(evidence)]
            self.assertEqual([chance(evidence), conflict(evidence), least_slips(evidence)][::-1], first)
            self.assertEqual(str(evidence), text)


class Told(unittest.TestCase):
    def test_the_example(self):
        self.assertEqual((least_slips(TORN), conflict(TORN), chance(TORN)), (1, (0, 1), ()))
        self.assertEqual((least_slips(SEEN), conflict(SEEN), chance(SEEN)), (0, None, ()))

    def test_without_runs(self):
        for evidence in [Evidence(["a"]), Evidence(["b", "a"], [], 2, 1), Evidence(list("abcd"), (), 1, 2)]:
            self.assertEqual((least_slips(evidence), conflict(evidence), chance(evidence)), (0, None, ()))

    def test_one_run_alone(self):
        evidence = Evidence.read("tests a\nthings 1 slips 0\na\na!\na | a!")
        self.assertEqual((least_slips(evidence), conflict(evidence)), (2, (2,)))
        self.assertEqual(conflict(evidence.allowing(1)), (0, 1, 2))

    def test_runs_that_are_there_twice(self):
        evidence = Evidence.read("tests a\nthings 1 slips 0\na\na\na!\na!")
        self.assertEqual(conflict(evidence), (0, 2))
        self.assertEqual(conflict(evidence.allowing(1)), (0, 1, 2, 3))
        self.assertIsNone(conflict(evidence.allowing(2)))
        self.assertEqual(chance(evidence), ())
        self.assertEqual(chance(evidence.without(3)), ((2, 0, 0),))

    def test_the_first_of_the_smallest(self):
        # Runs 0 and 3 contradict each other as runs 1 and 2 do; and with fewer slips a later run does so alone.
        evidence = Evidence.read("tests a b\nthings 1 slips 0\na\nb!\nb\na!")
        self.assertEqual(conflict(evidence), (0, 3))
        self.assertEqual(conflict(evidence.plus(Run.read("b b! | b"))), (0, 3))
        self.assertEqual(conflict(evidence.plus(Run.read("b! | b"))), (4,))

    def test_rows_and_places(self):
        evidence = Evidence.read("tests a b\nthings 1 slips 0\na b | a b! | b\na b | a b | b | a\na! | b | b!")
        self.assertEqual(least_slips(evidence), 3)
        self.assertEqual(chance(evidence), ((0, 1, 1), (2, 0, 0), (2, 2, 0)))

    def test_somewhat_beyond(self):
        evidence = Evidence(list("abcde"), [Run.read("a b! | c"), Run.read("d e! | a! b")] * 5, 1, 3)
        self.assertEqual(least_slips(evidence), 10)
        self.assertEqual(conflict(evidence), (0, 1, 2, 3))


class Limits(unittest.TestCase):
    def evidence(self, names, things, seed):
        luck = random.Random(seed)
        table = {name: tuple(luck.choice(SIGNS) for _ in range(things)) for name in names}
        runs = []
        for at in range(8):
            rows = [[luck.choice(names) for _ in range(8)] for _ in range(4)]
            told = [list(zip(row, outcomes(table, row))) for row in rows]
            name, failed = told[at % 4][at]
            # One outcome of most runs is turned about.
            told[at % 4][at] = (name, failed != (at > 2))
            runs.append(Run(told))
        return Evidence(list(names), runs, things, 2), table

    def test_the_largest_evidences(self):
        for names, things in [("abcd", 1), ("ab", 2)]:
            evidence, table = self.evidence(names, things, 7)
            wrong = tuple(place for place, (order, failed) in places(evidence).items()
                          if fails(table, order) != failed)
            self.assertEqual(len(wrong), 5)
            self.assertEqual(least_slips(evidence), 5)
            self.assertEqual(chance(evidence), wrong)
            # Of the runs with an outcome turned about any three do, or fewer beside runs that tell more.
            numbers = conflict(evidence)
            self.assertGreater(least_slips(Evidence(evidence.names, [evidence[at] for at in numbers], things)), 2)
            self.assertIsNone(conflict(evidence.allowing(5)))
