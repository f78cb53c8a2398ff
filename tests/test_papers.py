"""Points 15 and 16, and 1 to 3 as far as they speak of papers, against the very words of the document."""

import random
import unittest

from poisonruns.deciding import many, outlook
from poisonruns.evidence import Evidence
from poisonruns.papers import impossible, impossible_holds, sure, sure_holds
from poisonruns.runs import Run
from tests.plain import DOES, LOOKS, all_tables, explaining, fails, outcomes, places, some_evidences, some_rows, words
from tests.samples import any_values

SEEN = Evidence.read("tests a b c\nthings 1 slips 0\na b!\nb | a\na c b")
TORN = Evidence.read("tests a\nthings 1 slips 0\na!\na")
SLIP = Evidence.read("tests a b\nthings 1 slips 1\na! | a\nb b | b!\na b | a!")
WORDS = {"does": DOES, "look": LOOKS}


class Checker:
    """Whether a value is a tree, told by the tables that have the asked signs."""

    def __init__(self, evidence, claim=None):
        self.evidence = evidence
        self.places = places(evidence)
        self.claim = claim

    def holds(self, value):
        return self.below(value, all_tables(self.evidence.names, self.evidence.things), [])

    def below(self, value, tables, asked):
        if type(value) is not tuple or not value or type(value[0]) is not str:
            return False
        word, *rest = value
        if word == "ask" and len(rest) == 4:
            return self.ask(rest, tables, asked)
        if word == "not" and len(rest) == 1:
            return self.refutes(rest[0], tables)
        return word == "so" and not rest and self.claim is not None and known(tables, self.claim[0]) == self.claim[1]

    def ask(self, rest, tables, asked):
        name, thing, what, trees = rest
        if type(name) is not str or name not in self.evidence.names or type(what) is not str or what not in WORDS:
            return False
        if type(thing) is not int or thing not in range(self.evidence.things) or (name, thing, what) in asked:
            return False
        if type(trees) is not tuple or len(trees) != 3:
            return False
        for word, tree in zip(WORDS[what], trees):
            at = 0 if what == "does" else 1
            left = [table for table in tables if table[name][thing][at] == word]
            if not self.below(tree, left, [*asked, (name, thing, what)]):
                return False
        return True

    def refutes(self, told, tables):
        if type(told) is not tuple or any(type(place) is not tuple or len(place) != 3 for place in told):
            return False
        if any(type(part) is not int for place in told for part in place) or len(set(told)) != len(told):
            return False
        return len(told) > self.evidence.slips and all(self.is_wrong(place, tables) for place in told)

    def is_wrong(self, place, tables):
        order, failed = self.places.get(place, (None, None))
        return order is not None and known(tables, order) == (not failed)


def known(tables, order):
    """Whether the last test of an order fails, if that is the same with all these tables; else None."""
    found = {fails(table, order) for table in tables}
    return found.pop() if len(found) == 1 else None


def parts(tree, way=()):
    """The ways to all parts of a tree, the tree itself first."""
    yield way
    if isinstance(tree, tuple):
        for at, part in enumerate(tree):
            yield from parts(part, (*way, at))


def part_at(tree, way):
    for at in way:
        tree = tree[at]
    return tree


def with_part(tree, way, part):
    """The tree with another part there."""
    if not way:
        return part
    return tree[:way[0]] + (with_part(tree[way[0]], way[1:], part),) + tree[way[0] + 1:]


def other_parts(part):
    """Values that a part of a tree is not."""
    yield from [None, True, (), ("so",), "so", ("not", ()), ("not", ((0, 0, 0),))]
    if isinstance(part, bool):
        return
    if isinstance(part, int):
        yield from [part + 1, part - 1, -1, 7, part == 1, str(part), (part,)]
    if isinstance(part, str):
        yield from ["a", "b", "c", "z", "ask", "not", "does", "look", "", (part,), [part]]
    if isinstance(part, tuple):
        yield from [list(part), part[1:], part[:-1], part + part[-1:], part[::-1], part + part, (part,), part + (0,)]


def torn_evidences():
    """Evidences that no table explains, of one to three names with one thing and of one with two."""
    for seed, (count, names, things) in enumerate([(40, "a", 1), (40, "ab", 1), (15, "abc", 1), (40, "a", 2)]):
        for evidence in some_evidences(seed + 50, count, names, things):
            if many(evidence) == 0:
                yield evidence
    yield TORN
    yield SLIP
    yield Evidence.read("tests a b\nthings 2 slips 1\na! b | a\na\nb! b\nb | b | a!")


def claims(evidence, seed):
    """Claims of several kinds."""
    rows = some_rows(seed, evidence.names)
    for row, names in enumerate(rows):
        for place in range(len(names)):
            for word in ["passes", "fails"]:
                yield rows, row, place, word


class Impossible(unittest.TestCase):
    def test_just_if_no_table_explains_the_evidence(self):
        found = []
        kinds = [(40, "a", 1), (40, "ab", 1), (25, "abc", 1), (40, "a", 2), (3, "ab", 2)]
        for seed, (count, names, things) in enumerate(kinds):
            for evidence in some_evidences(seed, count, names, things):
                tree = impossible(evidence)
                self.assertEqual(tree is None, bool(explaining(evidence)))
                self.assertEqual(impossible(evidence=evidence), tree)
                found.append(tree is None)
                if tree is not None:
                    self.assertIs(impossible_holds(evidence, tree), True)
                    self.assertIs(impossible_holds(value=tree, evidence=evidence), True)
                    self.assertTrue(Checker(evidence).holds(tree))
                    self.assertNotIn(("so",), [part_at(tree, way) for way in parts(tree)])
        self.assertGreater(found.count(False), 20)
        self.assertGreater(found.count(True), 20)

    def test_the_example(self):
        tree = impossible(TORN)
        self.assertIsNotNone(tree)
        self.assertIs(impossible_holds(TORN, tree), True)
        self.assertIsNone(impossible(SEEN))

    def test_written_trees(self):
        first, second = ("not", ((0, 0, 0),)), ("not", ((1, 0, 0),))
        self.assertIs(impossible_holds(TORN, ("ask", "a", 0, "look", (first, first, second))), True)
        self.assertIs(impossible_holds(TORN, ("ask", "a", 0, "look", (first, second, second))), False)
        self.assertIs(impossible_holds(TORN, ("ask", "a", 0, "look", (second, first, second))), False)
        self.assertIs(impossible_holds(TORN, ("ask", "a", 0, "does", (first, first, second))), False)
        self.assertIs(impossible_holds(TORN, first), False)
        look = ("ask", "a", 0, "look", (first, first, second))
        self.assertIs(impossible_holds(TORN, ("ask", "a", 0, "does", (look, look, look))), True)
        self.assertIs(impossible_holds(TORN, ("ask", "a", 0, "look", (look, first, second))), False)

    def test_as_many_places_as_slips_are_too_few(self):
        evidence = Evidence.read("tests a\nthings 1 slips 1\na!\na\na!\na")
        first, second = ("not", ((0, 0, 0), (2, 0, 0))), ("not", ((3, 0, 0), (1, 0, 0)))
        self.assertIs(impossible_holds(evidence, ("ask", "a", 0, "look", (first, first, second))), True)
        wrong = [((0, 0, 0),), ((0, 0, 0), (0, 0, 0)), ((0, 0, 0), (2, 0, 0), (2, 0, 0)), ((0, 0, 0), (1, 0, 0)),
                 ((0, 0, 0), (4, 0, 0)), ((0, 0, 0), (-2, 0, 0)), ((0, 0, 0), (2, 0, 1)), ((0, 0, 0), (2, 1, 0)),
                 [(0, 0, 0), (2, 0, 0)], ([0, 0, 0], (2, 0, 0)), ((False, 0, 0), (2, 0, 0)), ((0, 0, 0), (2, 0)),
                 ((0, 0, 0), (2, 0, 0, 0)), (0, 0, 0), (), ((0, 0, 0), (2, 0, False)), ((0, 0, 0), (2, 0, -1))]
        for tree in [*[("not", told) for told in wrong], ("not",), ("so",), ["not", ((0, 0, 0), (2, 0, 0))]]:
            self.assertIs(impossible_holds(evidence, ("ask", "a", 0, "look", (first, tree, second))), False)
            self.assertIs(impossible_holds(evidence, ("ask", "a", 0, "look", (tree, first, second))), False)

    def test_more_places_than_needed(self):
        evidence = Evidence.read("tests a\nthings 1 slips 1\na!\na\na!\na\na!")
        first, second = ("not", ((4, 0, 0), (0, 0, 0), (2, 0, 0))), ("not", ((3, 0, 0), (1, 0, 0)))
        self.assertIs(impossible_holds(evidence, ("ask", "a", 0, "look", (first, first, second))), True)
        self.assertIs(impossible_holds(evidence, ("ask", "a", 0, "look", (first, first, first))), False)

    def test_true_is_no_integer(self):
        evidence = Evidence.read("tests a\nthings 2 slips 0\na\na!")
        passes, failed = ("not", ((1, 0, 0),)), ("not", ((0, 0, 0),))
        for thing, due in [(1, True), (True, False), (1.0, False), ("1", False), (2, False), (-1, False)]:
            inner = ("ask", "a", thing, "look", (passes, passes, failed))
            self.assertIs(impossible_holds(evidence, ("ask", "a", 0, "look", (inner, inner, failed))), due)

    def test_a_sign_that_is_not_there(self):
        tree = impossible(TORN)
        for name, thing, what in [("a", 1, "does"), ("a", -1, "look"), ("a", 10 ** 20, "does"), ("b", 0, "does"),
                                  ("a", 0, "Does"), ("a", 0, "sets"), ("none", 0, "look"), ("a", False, "does")]:
            self.assertIs(impossible_holds(TORN, ("ask", name, thing, what, (tree,) * 3)), False)
        self.assertIs(impossible_holds(TORN, ("ask", "a", 0, "does", (tree,) * 3)), True)

    def test_with_one_part_otherwise(self):
        held, wrong = 0, 0
        luck = random.Random(3)
        for evidence in torn_evidences():
            tree, check = impossible(evidence), Checker(evidence)
            ways = list(parts(tree))
            for way in luck.sample(ways, min(12, len(ways))):
                for part in other_parts(part_at(tree, way)):
                    value = with_part(tree, way, part)
                    with self.subTest(evidence=str(evidence), value=value):
                        due = check.holds(value)
                        self.assertIs(impossible_holds(evidence, value), due)
                        held, wrong = held + due, wrong + (not due)
        self.assertGreater(wrong, 1000)
        self.assertGreater(held, 10)

    def test_any_value(self):
        for evidence in [TORN, SEEN, SLIP]:
            for value in values():
                self.assertIs(impossible_holds(evidence, value), False)

    def test_a_right_tree_of_another_evidence(self):
        tree = impossible(TORN)
        for evidence in [TORN.without(0), TORN.without(1), TORN.allowing(1), SEEN, SLIP, Evidence(["a"])]:
            self.assertIs(impossible_holds(evidence, tree), False)

    def test_the_tree_may_ask_more(self):
        tree = impossible(TORN)
        self.assertIs(impossible_holds(TORN, ("ask", "a", 0, "does", (tree,) * 3)), True)
        more = Evidence(["a", "b", "c"], TORN.runs)
        wide = tree
        for name in ["b", "c"]:
            for what in ["look", "does"]:
                wide = ("ask", name, 0, what, (wide,) * 3)
        self.assertIs(impossible_holds(more, wide), True)
        self.assertIs(impossible_holds(TORN, wide), False)
        self.assertIs(impossible_holds(more, ("ask", "b", 0, "look", (wide,) * 3)), False)


def values():
    """Any values, also such as are nearly trees."""
    so, no = ("so",), ("not", ((0, 0, 0),))
    inner = [*any_values(), so, no, "so", "ask", "not", ["so"], ["not", ((0, 0, 0),)], ("so", "so"), ("not", no), (so,)]
    yield from inner
    for value in inner:
        yield ("ask", value)
        yield ("not", value)
        yield ("not", ((0, 0, 0), value))
        yield ("not", ((0, 0, value),))
        yield ("ask", value, 0, "look", (no, no, no))
        yield ("ask", "a", value, "look", (no, no, no))
        yield ("ask", "a", 0, value, (no, no, no))
        yield ("ask", "a", 0, "look", value)
        yield ("ask", "a", 0, "look", (no, value, no))
        yield (value, ((0, 0, 0),))
        yield (value, "a", 0, "look", (no, no, no))
        yield ("ask", "a", 0, "look", (no, no, no), value)


class Sure(unittest.TestCase):
    def test_just_if_the_claim_holds_with_all_tables(self):
        found = []
        kinds = [(15, "a", 1), (15, "ab", 1), (6, "abc", 1), (15, "a", 2), (1, "ab", 2)]
        for seed, (count, names, things) in enumerate(kinds):
            for at, evidence in enumerate(some_evidences(seed + 20, count, names, things)):
                tables = explaining(evidence)
                for rows, row, place, word in claims(evidence, at):
                    due = not tables or words(tables, rows[row])[place] == word
                    tree = sure(evidence, rows, row, place, word)
                    found.append((tree is None, bool(tables)))
                    self.assertEqual(tree is not None, due)
                    self.assertEqual(sure(word=word, place=place, row=row, rows=rows, evidence=evidence), tree)
                    if tree is not None:
                        self.assertIs(sure_holds(evidence, rows, row, place, word, tree), True)
                        self.assertIs(sure_holds(evidence, tuple(map(tuple, rows)), row, place, word, value=tree), True)
                        self.assertTrue(Checker(evidence, (rows[row][:place + 1], word == "fails")).holds(tree))
        self.assertEqual(set(found), {(True, True), (False, True), (False, False)})

    def test_the_example(self):
        self.assertIs(sure_holds(SEEN, [["a", "b"]], 0, 1, "fails", ("so",)), False)
        self.assertIsNotNone(sure(SEEN, [["a", "b"]], 0, 1, "fails"))
        self.assertIsNone(sure(SEEN, [["a", "b"]], 0, 1, "passes"))
        self.assertIsNone(sure(SEEN, [["a"], ["c"]], 1, 0, "passes"))
        self.assertIsNone(sure(SEEN, [["a"], ["c"]], 1, 0, "fails"))

    def test_written_trees(self):
        evidence = Evidence.read("tests a b\nthings 1 slips 0\na\nb!")
        so, first, second = ("so",), ("not", ((0, 0, 0),)), ("not", ((1, 0, 0),))
        tree = ("ask", "a", 0, "look", (so, so, first))
        self.assertIs(sure_holds(evidence, [["b"], ["a"]], 1, 0, "passes", tree), True)
        self.assertIs(sure_holds(evidence, [["b"], ["a"]], 1, 0, "fails", tree), False)
        self.assertIs(sure_holds(evidence, [["b"], ["a"]], 0, 0, "passes", tree), False)
        self.assertIs(sure_holds(evidence, [["b", "a"]], 0, 1, "passes", tree), False)
        self.assertIs(sure_holds(evidence, [["a"]], 0, 0, "passes", ("ask", "a", 0, "look", (so, so, so))), False)
        self.assertIs(sure_holds(evidence, [["a"]], 0, 0, "passes", so), False)
        self.assertIs(sure_holds(evidence, [["b"]], 0, 0, "fails", ("ask", "b", 0, "look", (second, second, so))), True)
        self.assertIs(sure_holds(evidence, [["b"]], 0, 0, "fails", ("ask", "b", 0, "look", (second, so, so))), False)

    def test_a_known_outcome_with_two_things(self):
        # One look that fails is enough; to pass, both looks have to be known.
        so, no = ("so",), ("not", ((0, 0, 0),))
        for text, word, last, due in [("a!", "fails", so, True), ("a", "passes", no, True), ("a", "passes", so, False)]:
            evidence = Evidence.read("tests a\nthings 2 slips 0\n" + text)
            inner = ("ask", "a", 1, "look", (no, no, so) if word == "fails" else (so, so, no))
            tree = ("ask", "a", 0, "look", (inner, inner, last))
            self.assertIs(sure_holds(evidence, [["a"]], 0, 0, word, tree), due)
            self.assertIs(sure_holds(evidence, [["a"]], 0, 0, word, ("ask", "a", 0, "look", (inner, so, last))), False)

    def test_with_one_part_otherwise(self):
        held, wrong = 0, 0
        luck = random.Random(4)
        for seed, (count, names, things) in enumerate([(12, "a", 1), (12, "ab", 1), (3, "abc", 1), (12, "a", 2)]):
            for at, evidence in enumerate(some_evidences(seed + 70, count, names, things)):
                for rows, row, place, word in list(claims(evidence, at))[:6]:
                    tree = sure(evidence, rows, row, place, word)
                    check = Checker(evidence, (rows[row][:place + 1], word == "fails"))
                    ways = [] if tree is None else list(parts(tree))
                    for way in luck.sample(ways, min(5, len(ways))):
                        for part in other_parts(part_at(tree, way)):
                            value = with_part(tree, way, part)
                            with self.subTest(evidence=str(evidence), value=value):
                                due = check.holds(value)
                                self.assertIs(sure_holds(evidence, rows, row, place, word, value), due)
                                held, wrong = held + due, wrong + (not due)
        self.assertGreater(wrong, 1000)
        self.assertGreater(held, 50)

    def test_any_value(self):
        for evidence in [TORN, SEEN, SLIP]:
            for value in values():
                self.assertIs(sure_holds(evidence, [["a", "a"]], 0, 1, "fails", value), False)

    def test_where_nothing_explains_the_evidence(self):
        for evidence in torn_evidences():
            tree = impossible(evidence)
            for word in ["passes", "fails"]:
                for row in [["a"], ["a", "a"]]:
                    self.assertIs(sure_holds(evidence, [row], 0, len(row) - 1, word, tree), True)
                    other = sure(evidence, [row], 0, len(row) - 1, word)
                    self.assertIs(sure_holds(evidence, [row], 0, len(row) - 1, word, other), True)

    def test_nothing_changes(self):
        rows = [["a", "b"], ["c"]]
        tree = sure(SEEN, rows, 0, 1, "fails")
        self.assertEqual(rows, [["a", "b"], ["c"]])
        sure_holds(SEEN, rows, 0, 1, "fails", tree)
        impossible(TORN)
        self.assertEqual((rows, str(TORN)), ([["a", "b"], ["c"]], "tests a\nthings 1 slips 0\na!\na"))
        self.assertEqual(sure(SEEN, rows, 0, 1, "fails"), tree)


class Limits(unittest.TestCase):
    FOUR = Evidence.read("tests a b c d\nthings 1 slips 2\n" + "\n".join(
        ["a b c d a b! c d | d c b a d c b! a! | a a | b c d"] * 4 + ["d! c! b a! | b! b! b | d c! a a! d d b! c"] * 4))
    TWO = Evidence.read("tests a b\nthings 2 slips 2\n" + "\n".join(
        ["a b a b! a a b b | b b a! a b | a! | b b"] * 5 + ["b! a b! a a! | b a a | a! b | a b! b a! a b! b a"] * 3))

    def test_large_evidences(self):
        for evidence in [self.FOUR, self.TWO]:
            self.assertEqual(many(evidence), 0)
            tree = impossible(evidence)
            self.assertIs(impossible_holds(evidence, tree), True)
            for word in ["passes", "fails"]:
                rows = [list(evidence.names) * 2] * 4
                self.assertIs(sure_holds(evidence, rows, 3, 7, word, sure(evidence, rows, 3, 7, word)), True)

    def test_claims_of_large_evidences(self):
        table = {"a": (("sets", "never"),), "b": (("leaves", "on"),), "c": (("clears", "never"),),
                 "d": (("sets", "off"),)}
        rows = [list("abcdabcb"), list("dcbadbab"), ["b"], ["c", "d", "b"]]
        run = Run([list(zip(row, outcomes(table, row))) for row in rows])
        evidence = Evidence(list("abcd"), [run] * 8, 1, 2)
        row = list("dbcabadb")
        found = 0
        for place, word in enumerate(outlook(evidence, [row])[0]):
            tree = sure(evidence, [row], 0, place, word)
            if word != "open":
                found += 1
                self.assertIs(sure_holds(evidence, [row], 0, place, word, tree), True)
                for other in {"passes", "fails"} - {word}:
                    self.assertIsNone(sure(evidence, [row], 0, place, other))
                    self.assertIs(sure_holds(evidence, [row], 0, place, other, tree), False)
        self.assertGreater(found, 3)

    def test_the_widest_tree(self):
        # All eight signs are asked everywhere: 9,841 trees within one another.
        evidence = Evidence(list("abcd"), TORN.runs)
        leaves = {"never": ("not", ((0, 0, 0),)), "on": ("not", ((0, 0, 0),)), "off": ("not", ((1, 0, 0),))}
        signs = [(name, what) for name in "bcd" for what in ("look", "does")] + [("a", "does")]

        def grown(at, look):
            if at == len(signs):
                return leaves[look]
            name, what = signs[at]
            return ("ask", name, 0, what, tuple(grown(at + 1, look) for _ in range(3)))

        tree = ("ask", "a", 0, "look", tuple(grown(0, look) for look in LOOKS))
        self.assertIs(impossible_holds(evidence, tree), True)
        self.assertIs(impossible_holds(evidence, ("ask", "a", 0, "look", (tree[4][0], tree[4][2], tree[4][2]))), False)

    def test_deep_tuples(self):
        value = ("so",)
        for _ in range(12):
            value = ("ask", "a", 0, "look", (value, value, value))
        self.assertIs(impossible_holds(TORN, value), False)
        self.assertIs(sure_holds(SEEN, [["a"]], 0, 0, "passes", value), False)
        for _ in range(40):
            value = (value,)
        self.assertIs(impossible_holds(TORN, value), False)
