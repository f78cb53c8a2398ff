"""Points 17 and 18, and 1 to 3 as far as they speak of orders, against a plain search."""

import itertools
import unittest

from poisonruns.deciding import many
from poisonruns.errors import Impossible, InvalidRows, NoTest
from poisonruns.evidence import Evidence
from poisonruns.orders import apart, clearings, near, safe_order, safe_orders
from poisonruns.runs import Run
from tests.plain import explaining, outcomes, some_evidences, some_rows
from tests.samples import BAD_NAMES, any_values, raised

SEEN = Evidence.read("tests a b c\nthings 1 slips 0\na b!\nb | a\na c b")
TORN = Evidence.read("tests a\nthings 1 slips 0\na!\na")


def told_evidences():
    """Evidences of which much is known, so that some orders surely pass."""
    texts = [
        "tests a b c\nthings 1 slips 0\na b!\nb | a\na c b\nc", "tests a b c\nthings 1 slips 0\na b c\nc b a | b a c",
        "tests a b c\nthings 1 slips 0\na! b\nb a | c b | b a c", "tests a b\nthings 2 slips 0\na b | b! a\nb! a b",
        "tests a b c\nthings 1 slips 1\na b! a\nb c a\nc a b | c b a", "tests a b\nthings 2 slips 0\na b\nb a",
        "tests a b\nthings 2 slips 0\na! b\nb a", "tests a b\nthings 1 slips 0\na b!\nb a!",
        "tests a b c\nthings 1 slips 0\na b c\nb! | c!", "tests a\nthings 1 slips 0\na",
        "tests a\nthings 2 slips 0\na!",
        "tests a b c d\nthings 1 slips 0\na | b | c | d\na b! c d\nb a c d | c b",
        "tests a b c d\nthings 1 slips 0\na! | b | c | d\nb a c d | d c a b\nc b! | d a",
        "tests a b c d\nthings 1 slips 0\na b! c! d | a c! d b\nd b a | b | c | d c b a",
    ]
    yield from [Evidence.read(text) for text in texts]


def cases():
    yield from told_evidences()
    kinds = [(40, "a", 1), (60, "ab", 1), (50, "abc", 1), (40, "z", 2), (4, "xy", 2)]
    for seed, (count, names, things) in enumerate(kinds):
        yield from some_evidences(seed + 100, count, list(names), things)


def passes(tables, row):
    return all(not any(outcomes(table, row)) for table in tables)


class Searched(unittest.TestCase):
    """Each case with the tables that explain it."""

    @classmethod
    def setUpClass(cls):
        found = [(evidence, explaining(evidence)) for evidence in cases()]
        cls.cases = [(evidence, tables) for evidence, tables in found if tables]
        cls.torn = [evidence for evidence, tables in found if not tables]

    def test_safe_order(self):
        found = []
        for evidence, tables in self.cases:
            safe = [order for order in itertools.permutations(evidence.names) if passes(tables, order)]
            self.assertEqual(safe_order(evidence), safe[0] if safe else None)
            self.assertEqual(safe_order(evidence=evidence), safe_order(evidence))
            self.assertEqual(safe_orders(evidence), len(safe))
            self.assertEqual(safe_orders(evidence=evidence), len(safe))
            self.assertIs(type(safe_orders(evidence)), int)
            found.append((len(safe), safe[:1] == [tuple(evidence.names)]))
        self.assertIn((0, False), found)
        self.assertTrue(any(count > 1 for count, _ in found))
        self.assertTrue(any(count > 0 and not first for count, first in found))

    def test_clearings(self):
        found = []
        for at, (evidence, tables) in enumerate(self.cases):
            for row in [*some_rows(at, evidence.names), *some_rows(at + 1, evidence.names), evidence.names]:
                due = self.cleared(tables, row)
                self.assertEqual(clearings(evidence, row), due)
                self.assertEqual(clearings(order=tuple(row), evidence=evidence), due)
                found.append(due if due is None else len(due))
        self.assertLessEqual({None, 0, 1, 2, 3}, set(found))

    def cleared(self, tables, row):
        known = {}
        for count in range(len(row) + 1):
            for places in itertools.combinations(range(len(row)), count):
                ends = [*places, len(row)]
                pieces = [tuple(row[start:end]) for start, end in zip([0, *places], ends) if start < end]
                for piece in pieces:
                    if piece not in known:
                        known[piece] = passes(tables, piece)
                if all(known[piece] for piece in pieces):
                    return places
        return None

    def test_apart(self):
        found = []
        for evidence, tables in self.cases:
            for workers in (1, 2):
                due = self.split(tables, evidence.names, workers)
                self.assertEqual(apart(evidence, workers), due)
                self.assertEqual(apart(workers=workers, evidence=evidence), due)
                found.append((workers, due and len(due), due and max(map(len, due))))
        # None; one row for two workers; two rows of one length, or of several; one row for one worker.
        due = [(1, None, None), (2, None, None), (2, 1, 2), (2, 1, 3), (2, 2, 1), (2, 2, 2), (1, 1, 3), (1, 1, 1)]
        self.assertLessEqual(set(due), set(found))

    def split(self, tables, names, workers):
        best = None
        for order in itertools.permutations(names):
            for cut in range(len(names)) if workers == 2 else [0]:
                rows = tuple(sorted(row for row in (order[:cut], order[cut:]) if row))
                if all(passes(tables, row) for row in rows):
                    key = (max(len(row) for row in rows), rows)
                    best = key if best is None or key < best else best
        return best and best[1]

    def test_impossible(self):
        self.assertGreater(len(self.torn), 10)
        for evidence in [*self.torn, TORN]:
            for call in [safe_order, safe_orders]:
                self.assertIs(type(raised(call, evidence)), Impossible)
            for workers in (1, 2):
                self.assertIs(type(raised(apart, evidence, workers)), Impossible)
            for order in [list(evidence.names), evidence.names * 2]:
                self.assertIs(type(raised(clearings, evidence, order)), Impossible)

    def test_the_same_again(self):
        for evidence, _ in self.cases[::3]:
            text, order = str(evidence), list(evidence.names)
            first = [safe_order(evidence), safe_orders(evidence), clearings(evidence, order), apart(evidence, 2)]
            again = [apart(evidence, 2), clearings(evidence, order), safe_orders(evidence), safe_order(evidence)]
            self.assertEqual(again[::-1], first)
            self.assertEqual((str(evidence), order), (text, list(evidence.names)))


class Told(unittest.TestCase):
    def test_the_example(self):
        self.assertEqual(safe_order(SEEN), ("a", "c", "b"))
        self.assertEqual(clearings(SEEN, ["a", "b"]), (1,))
        self.assertEqual(apart(SEEN, 2), (("a", "c"), ("b",)))
        self.assertEqual(len(near(["a", "b", "c"])), 4)

    def test_clearings(self):
        evidence = Evidence.read("tests a b\nthings 1 slips 0\na b! | b a | a a | b b")
        self.assertEqual(clearings(evidence, ["a"]), ())
        self.assertEqual(clearings(evidence, ["b", "a", "a"]), ())
        self.assertEqual(clearings(evidence, ["a", "b", "a", "b"]), (1, 3))
        self.assertEqual(clearings(evidence, ["a", "a", "b", "b", "a", "a", "a", "b"]), (2, 7))
        self.assertEqual(clearings(evidence, ["b", "a", "a", "b"] * 3), (3, 7, 11))
        failing = Evidence.read("tests a b\nthings 1 slips 0\na! | b a")
        self.assertIsNone(clearings(failing, ["a"]))
        self.assertEqual(clearings(failing, ["b", "a"]), ())
        self.assertIsNone(clearings(failing, ["a", "b"]))

    def test_the_first_of_the_smallest(self):
        # What `a` sets lets `c` fail; `b` passes and leaves it so: clear ahead of `b` or ahead of `c`.
        evidence = Evidence.read("tests a b c\nthings 1 slips 0\na c!\na b c!\nb c | a")
        self.assertEqual(clearings(evidence, ["a", "c"]), (1,))
        self.assertEqual(clearings(evidence, ["a", "b", "c"]), (1,))

    def test_the_order_of_errors(self):
        self.assertIs(type(raised(clearings, TORN, ["a"])), Impossible)
        self.assertIs(type(raised(clearings, TORN, ["b"])), NoTest)
        self.assertIs(type(raised(clearings, TORN, ["b", "none"])), InvalidRows)

    def test_errors_of_clearings(self):
        for evidence in [SEEN, TORN]:
            for value in [*any_values(), *BAD_NAMES, "a", "ab", {"a": 1}, [["a"]], (("a",),), [("a", True)], range(1)]:
                error = raised(clearings, evidence, value)
                self.assertIs(type(error), InvalidRows)
                self.assertEqual(error.at, 0)
            for value in [*any_values(), *BAD_NAMES]:
                error = raised(clearings, evidence=evidence, order=["a", value])
                self.assertIs(type(error), InvalidRows)
                self.assertEqual(error.at, 0)
            for order, name in [(["z"], "z"), (("a", "y", "x"), "y"), (["a", "a", "aa"], "aa")]:
                error = raised(clearings, evidence, order)
                self.assertIs(type(error), NoTest)
                self.assertEqual(error.name, name)

    def test_the_fewest_places_in_the_longest_row(self):
        free = Evidence.read("tests a b c d\nthings 1 slips 0\na b c d\nd c b a\nb d a c\nc a d b\na | b | c | d")
        self.assertGreater(many(free), 1)
        self.assertEqual(apart(free, 2), (("a", "b"), ("c", "d")))
        self.assertEqual(apart(free, 1), (("a", "b", "c", "d"),))
        self.assertEqual((safe_order(free), safe_orders(free)), (("a", "b", "c", "d"), 24))
        single = Evidence.read("tests q\nthings 1 slips 0\nq")
        self.assertEqual((apart(single, 1), apart(single, 2)), ((("q",),), (("q",),)))
        self.assertIsNone(apart(Evidence(["a"]), 2))

    def test_one_row_where_two_do_not_pass(self):
        evidence = Evidence.read("tests a b c\nthings 1 slips 0\na b c\nb! | c!")
        self.assertEqual(apart(evidence, 2), (("a", "b", "c"),))
        self.assertEqual(apart(evidence, 1), (("a", "b", "c"),))

    def test_somewhat_beyond(self):
        row = [(name, False) for name in "abcde"]
        orders = [row, row[::-1], row[1:] + row[:1], row[2:] + row[:2], *[[place] for place in row]]
        evidence = Evidence(list("abcde"), [Run([order]) for order in orders])
        self.assertEqual(safe_order(evidence), ("a", "b", "c", "d", "e"))
        self.assertEqual(max(len(part) for part in apart(evidence, 2)), 3)
        self.assertEqual(clearings(evidence, list("abcde") * 3) is None, False)


class Limits(unittest.TestCase):
    def test_the_largest_evidence(self):
        table = {"a": (("sets", "never"),), "b": (("leaves", "on"),), "c": (("clears", "never"),),
                 "d": (("leaves", "never"),)}
        rows = [list("abcdbacb"), list("dbacbdac"), list("cbadbabd"), list("badcbadc")]
        evidence = Evidence(list("dcba"), [Run([list(zip(row, outcomes(table, row))) for row in rows])] * 8, 1, 2)
        tables = explaining(evidence)
        safe = [order for order in itertools.permutations("abcd") if passes(tables, order)]
        self.assertEqual((safe_order(evidence), safe_orders(evidence)), (safe[0], len(safe)))
        self.assertEqual(clearings(evidence, list("ababacab")), (1, 3, 7))
        self.assertEqual(apart(evidence, 2), Searched.split(self, tables, evidence.names, 2))


class Near(unittest.TestCase):
    def check(self, names, due):
        orders = near(names)
        self.assertIs(type(orders), tuple)
        self.assertEqual(len(orders), due)
        for order in orders:
            self.assertIs(type(order), tuple)
            self.assertEqual(sorted(order), sorted(names))
        beside = {pair for order in orders for pair in zip(order, order[1:])}
        self.assertEqual(beside, set(itertools.permutations(names, 2)))

    def test_one_to_four_names(self):
        for count, due in [(1, 0), (2, 2), (3, 4), (4, 4)]:
            for names in itertools.permutations(["zz", "a", "none"[:3], "b"][:count]):
                self.check(list(names), due)
                self.check(names, due)
                self.assertEqual(near(names=names), near(names))

    def test_three_orders_of_three_names_are_too_few(self):
        orders = list(itertools.permutations("abc"))
        for picked in itertools.combinations(orders, 3):
            self.assertLess(len({pair for order in picked for pair in zip(order, order[1:])}), 6)

    def test_the_names_are_not_changed(self):
        names = ["d", "a", "c"]
        orders = near(names)
        self.assertEqual(names, ["d", "a", "c"])
        names.clear()
        self.assertEqual(orders, near(["d", "a", "c"]))

    def test_somewhat_beyond(self):
        self.check(list("abcde"), 6)
        self.check(tuple("badcfe"), 6)
