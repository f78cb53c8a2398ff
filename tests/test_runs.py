"""Points 5 and 6, and 1 to 3 as far as they speak of runs."""

import itertools
import unittest

from poisonruns.errors import InvalidRun, InvalidText
from poisonruns.runs import Run
from poisonruns.tables import Table
from tests.samples import BAD_NAMES, GOOD_NAMES, any_values, raised

ROWS = (
    (("a", False), ("b", True)),
    (("c", False),),
    (("b", True), ("b", False), ("b", True), ("zz", False), ("abcd", True), ("a", True), ("a", True), ("a", False)),
    (("non", True),) * 8,
)
TEXTS = ("a b!", "c", "b! b b! zz abcd! a! a! a", "non! non! non! non! non! non! non! non!")


def shapes():
    """Sequences of one to four rows with what their run is to be."""
    for count in range(1, 5):
        for picked in itertools.permutations(range(4), count):
            yield tuple(ROWS[at] for at in picked), " | ".join(TEXTS[at] for at in picked)


class Made(unittest.TestCase):
    def check(self, run, rows):
        self.assertEqual(run.rows, rows)
        self.assertEqual(run.orders, tuple(tuple(name for name, _ in row) for row in rows))
        self.assertEqual(run.names, tuple(sorted({name for row in rows for name, _ in row})))
        self.assertEqual(len(run), sum(len(row) for row in rows))
        for told in [run.rows, run.orders, run.names, *run.rows, *run.orders, *[part for row in run.rows for part in row]]:
            self.assertIs(type(told), tuple)

    def test_lists_and_tuples(self):
        for rows, _ in shapes():
            self.check(Run(rows), rows)
            self.check(Run(list(rows)), rows)
            self.check(Run([list(row) for row in rows]), rows)
            self.check(Run(tuple(list(row) for row in rows)), rows)
            self.check(Run(rows=rows), rows)

    def test_told_values(self):
        run = Run([[("b", True), ("a", False), ("b", False)], (("c", True),)])
        self.assertEqual(run.rows, ((("b", True), ("a", False), ("b", False)), (("c", True),)))
        self.assertEqual(run.names, ("a", "b", "c"))
        self.assertEqual(run.orders, (("b", "a", "b"), ("c",)))
        self.assertEqual(len(run), 4)
        self.assertEqual([type(failed) for row in run.rows for _, failed in row], [bool] * 4)

    def test_later_changes_have_no_effect(self):
        rows = [[("a", True)], [("b", False), ("c", True)]]
        run = Run(rows)
        rows[0].append(("d", True))
        rows[1][0] = ("e", True)
        rows.append([("f", True)])
        self.check(run, ((("a", True),), (("b", False), ("c", True))))
        inner = [("a", False)]
        run = Run((inner, inner))
        inner.clear()
        self.check(run, ((("a", False),), (("a", False),)))

    def test_the_argument_is_not_changed(self):
        rows = [[("b", True)], (("a", False),)]
        Run(rows)
        self.assertEqual(rows, [[("b", True)], (("a", False),)])

    def test_beyond_the_limits(self):
        row = tuple((name, name < "m") for name in "abcdefghijklmnopqrstuvwxyz")
        run = Run([row] * 9)
        self.check(run, (row,) * 9)
        self.assertEqual(Run.read(str(run)), run)

    def test_names(self):
        for name in GOOD_NAMES:
            self.assertEqual(Run([[(name, True)]]).names, (name,))

    def test_not_iterable(self):
        run = Run(ROWS)
        self.assertRaises(TypeError, iter, run)
        self.assertRaises(TypeError, list, run)
        with self.assertRaises(TypeError):
            for _ in run:
                pass


class Wrong(unittest.TestCase):
    GOOD = [("a", True), ("b", False)]

    def check(self, rows, at):
        for call in [lambda: Run(rows), lambda: Run(rows=rows)]:
            with self.subTest(rows=rows):
                error = raised(call)
                self.assertIs(type(error), InvalidRun)
                self.assertIs(type(error.at), int)
                self.assertEqual(error.at, at)

    def test_no_sequence_of_rows(self):
        for value in any_values():
            self.check(value, 0)
        for value in [{0: self.GOOD}, {"a"}, iter([self.GOOD]), range(2), b"a", "a b!"]:
            self.check(value, 0)

    def test_wrong_rows(self):
        for value in any_values():
            for at in range(4):
                self.check([self.GOOD] * at + [value], at)
                self.check((self.GOOD,) * at + (value, self.GOOD), at)

    def test_the_first_wrong_row(self):
        self.check([self.GOOD, [], 3], 1)
        self.check([self.GOOD, 3, []], 1)
        self.check([self.GOOD, self.GOOD, [("none", True)], [], self.GOOD, 3], 2)
        self.check([[("a", 1)], [], self.GOOD], 0)

    def wrong_places(self):
        yield from any_values()
        yield from [(name, False) for name in BAD_NAMES]
        yield from [("a", value) for value in any_values() if not isinstance(value, bool)]
        yield from [(value, True) for value in any_values()[:8]]
        yield from [["a", True], ["a", False], ("a",), ("a", True, True), (), (True, "a"), "a", ("a", "b"), "ab", 1]
        yield from [("a", 1), ("a", 0), ("a", None), ("a", "!"), ("a", "True"), {"a": True}, (["a"], True)]

    def test_wrong_places(self):
        for place in self.wrong_places():
            self.check([[place]], 0)
            self.check([self.GOOD, [("a", True), place]], 1)
            self.check((tuple(self.GOOD), (place, ("a", True)), tuple(self.GOOD)), 1)

    def test_wrong_row_objects(self):
        for value in [{("a", True): 1}, {("a", True)}, iter(self.GOOD), "a", b"a", range(1)]:
            self.check([self.GOOD, value], 1)


class Plus(unittest.TestCase):
    def test_plus(self):
        one, two = Run(ROWS[:2]), Run(ROWS[2:])
        self.assertEqual((one + two).rows, ROWS)
        self.assertEqual((two + one).rows, ROWS[2:] + ROWS[:2])
        self.assertEqual((one + two).names, ("a", "abcd", "b", "c", "non", "zz"))
        self.assertEqual((one + two).orders, one.orders + two.orders)
        self.assertEqual(len(one + two), len(one) + len(two))
        self.assertEqual((one + one).rows, ROWS[:2] * 2)
        self.assertIs(type(one + two), Run)
        self.assertEqual((one.rows, two.rows), (ROWS[:2], ROWS[2:]))

    def test_in_place(self):
        elder = run = Run(ROWS[:1])
        run += Run(ROWS[1:])
        self.assertEqual(run.rows, ROWS)
        self.assertIsNot(run, elder)
        self.assertEqual((elder.rows, elder.names, elder.orders, len(elder)), (ROWS[:1], ("a", "b"), (("a", "b"),), 2))
        run += run
        self.assertEqual(run.rows, ROWS * 2)

    def test_grouping(self):
        one, two, three, four = [Run([row]) for row in ROWS]
        self.assertEqual((((one + two) + three) + four).rows, ROWS)
        self.assertEqual((one + (two + (three + four))).rows, ROWS)
        self.assertEqual(((one + two) + (three + four)).rows, ROWS)

    def test_many(self):
        run = Run(ROWS)
        for _ in range(5):
            run += run
        self.assertEqual(len(run.rows), 128)
        self.assertEqual(Run.read(str(run)), run)

    def test_anything_but_a_run(self):
        run = Run(ROWS)
        others = [value for value in any_values() if not isinstance(value, Run)]
        for other in [*others, ROWS, list(ROWS), "a b!", Table({"a": [("sets", "on")]}), {}, object()]:
            with self.subTest(other=other):
                with self.assertRaises(TypeError):
                    run + other
                with self.assertRaises(TypeError):
                    other + run
                with self.assertRaises(TypeError):
                    kept = run
                    kept += other
        self.assertEqual(run.rows, ROWS)


class Texts(unittest.TestCase):
    WRONG = ["", " ", "  ", "|", " | ", "!", "!!", "a!!", "!a", "a! !", "a !", "a  b", " a", "a ", "a | ", " | a", "a |",
             "| a", "a|b", "a| b", "a |b", "a |  | b", "a | | b", "a  | b", "a |  b", "a || b", "a\n", "\na", "a\nb",
             "a b\n", "a\tb", "none", "none!", "a none", "abcde", "abcde!", "A", "a B", "a1", "1", "a,b", "a.", "\u00e4",
             "a \u00e4!", "a b! | c |", "a b! | c d!!", "a\u00a0b", "a!b", "a\r", "a | b\n", "_", "a-b"]

    def test_text(self):
        for rows, text in shapes():
            self.assertEqual(str(Run(rows)), text)
            run = Run.read(text)
            self.assertEqual(run.rows, rows)
            self.assertEqual(str(run), text)
            self.assertIs(type(run), Run)

    def test_the_told_text(self):
        self.assertEqual(str(Run([[("a", False), ("b", True)], [("c", False)]])), "a b! | c")
        run = Run.read(text="a b! | c")
        self.assertEqual(run.rows, ((("a", False), ("b", True)), (("c", False),)))
        self.assertEqual((run.names, run.orders, len(run)), (("a", "b", "c"), (("a", "b"), ("c",)), 3))

    def test_any_other_string(self):
        for text in self.WRONG:
            with self.subTest(text=text):
                error = raised(Run.read, text)
                self.assertIs(type(error), InvalidText)
                self.assertEqual(error.at, 0)

    def test_short_strings(self):
        """Every string of at most five of these characters: it is a text just if `str` gives it back."""
        def right(text):
            words = [word for row in text.split(" | ") for word in row.split(" ")]
            return all(word.rstrip("!") in ("a", "aa", "aaa", "aaaa") and word.count("!") < 2 for word in words)

        for size in range(6):
            for letters in itertools.product("a! |", repeat=size):
                text = "".join(letters)
                if right(text):
                    self.assertEqual(str(Run.read(text)), text)
                else:
                    self.assertEqual(type(raised(Run.read, text)), InvalidText, text)

    def test_equal(self):
        for (one, text), (other, another) in itertools.product(list(shapes()), repeat=2):
            self.assertIs(Run(one) == Run(list(other)), text == another)
            self.assertIs(Run(one) != Run(list(other)), text != another)

    def test_close_ones_are_not_equal(self):
        texts = ["a", "a!", "a a", "a | a", "a b", "b a", "ab", "a b!", "a! b", "a | b", "b | a"]
        for one, other in itertools.product(texts, repeat=2):
            self.assertEqual(Run.read(one) == Run.read(other), one == other)

    def test_equal_to_nothing_else(self):
        class Yes:
            rows = ROWS

            def __str__(self):
                return str(Run(ROWS))

        run = Run([[("a", True)]])
        others = [value for value in any_values() if not isinstance(value, Run)]
        for other in [*others, run.rows, run.orders, list(run.rows), "a!", Yes(), object()]:
            self.assertIs(run == other, False)
            self.assertIs(run != other, True)
        self.assertIs(Run(ROWS) == Yes(), False)
