"""Points 7 to 9, and 1 to 3 as far as they speak of tables."""

import itertools
import unittest

from poisonruns.errors import InvalidRows, InvalidTable, InvalidText, NoTest
from poisonruns.runs import Run
from poisonruns.tables import Table
from tests.samples import BAD_NAMES, GOOD_NAMES, any_values, raised

DOES = ("sets", "clears", "leaves")
LOOKS = ("never", "on", "off")
SIGNS = tuple(itertools.product(DOES, LOOKS))


def told_outcome(signs, before):
    """Whether a test fails behind these tests: by the last test ahead that touched the thing (all are signs)."""
    for thing, (_, look) in enumerate(signs):
        touching = [told[thing][0] for told in before if told[thing][0] != "leaves"]
        is_set = touching[-1:] == ["sets"]
        if (look == "on" and is_set) or (look == "off" and not is_set):
            return True
    return False


def told_row(table, row):
    """The places of a row as point 8 tells them, from the dict of a table."""
    return tuple((name, told_outcome(table[name], [table[early] for early in row[:at]])) for at, name in enumerate(row))


def tables(count=None):
    """Dicts of tables: one or two names with one thing, all of them; some of two things and of more names."""
    for one in SIGNS:
        yield {"a": (one,)}
    for one, other in itertools.product(SIGNS, repeat=2):
        yield {"a": (one,), "b": (other,)}
        yield {"a": (one, other)}
    for at, signs in enumerate(itertools.product(SIGNS, repeat=4)):
        if at % 41 == 0:
            yield {"a": signs[:2], "b": signs[2:]}
    for at, signs in enumerate(itertools.product(SIGNS, repeat=3)):
        if at % 17 == 0:
            yield {"c": signs[:1], "a": signs[1:2], "b": signs[2:]}
    for start in range(0, 81, 7):
        picked = [SIGNS[(start * step + step) % 9] for step in range(12)]
        yield {name: (picked[at],) for at, name in enumerate("fcaebd")}
        yield {name: (picked[at], picked[at + 6]) for at, name in enumerate("fcaebd")}


class Made(unittest.TestCase):
    def check(self, table, told):
        self.assertEqual(table.names, tuple(sorted(told)))
        self.assertIs(type(table.names), tuple)
        self.assertEqual(table.things, len(list(told.values())[0]))
        self.assertEqual(len(table), len(told))
        for name in told:
            self.assertIs(name in table, True)
            for thing, (does, look) in enumerate(told[name]):
                self.assertEqual((table.does(name, thing), table.look(name, thing)), (does, look))
                self.assertEqual(table.does(name=name, thing=thing), does)
                self.assertEqual(table.look(name=name, thing=thing), look)

    def test_lists_and_tuples(self):
        for told in tables():
            self.check(Table(told), told)
            self.check(Table(signs={name: list(signs) for name, signs in told.items()}), told)

    def test_entries_in_any_order(self):
        entries = [(name, [SIGNS[at]]) for at, name in enumerate(["b", "a", "zz", "ab", "on", "sets"])]
        for count in range(1, 7):
            for picked in itertools.islice(itertools.permutations(entries, count), 0, None, 7):
                self.check(Table(dict(picked)), dict(picked))

    def test_later_changes_have_no_effect(self):
        inner = [("sets", "never"), ("leaves", "on")]
        signs = {"b": inner, "a": [("clears", "off"), ("sets", "on")]}
        table = Table(signs)
        text = str(table)
        inner[0] = ("clears", "on")
        inner.append(("sets", "on"))
        signs["c"] = [("sets", "on")]
        del signs["a"]
        self.check(table, {"a": [("clears", "off"), ("sets", "on")], "b": [("sets", "never"), ("leaves", "on")]})
        self.assertEqual(str(table), text)
        self.assertNotIn("c", table)

    def test_the_argument_is_not_changed(self):
        signs = {"b": [("sets", "never")], "a": (("clears", "off"),)}
        Table(signs)
        self.assertEqual(list(signs.items()), [("b", [("sets", "never")]), ("a", (("clears", "off"),))])

    def test_names(self):
        for name in GOOD_NAMES:
            self.assertEqual(Table({name: [("sets", "never")]}).names, (name,))

    def test_beyond_the_limits(self):
        told = {name: [SIGNS[at % 9]] for at, name in enumerate("abcdefghij")}
        self.check(Table(told), told)
        self.assertEqual(Table.read(str(Table(told))), Table(told))

    def test_not_iterable(self):
        table = Table({"a": [("sets", "never")]})
        self.assertRaises(TypeError, iter, table)
        self.assertRaises(TypeError, list, table)

    def test_in(self):
        table = Table({"a": [("sets", "never")], "sets": [("sets", "never")], "zzzz": [("sets", "on")]})
        for value in [*any_values(), *BAD_NAMES, *GOOD_NAMES, ["a"], ("a",)]:
            with self.subTest(value=value):
                self.assertIs(value in table, isinstance(value, str) and value in ("a", "sets", "zzzz"))

    def test_no_test(self):
        table = Table({"a": [("sets", "never"), ("leaves", "on")], "c": [("leaves", "off"), ("sets", "on")]})
        for value in [*any_values(), *BAD_NAMES, "b", "aa", ["a"], ("a",), {"a": 1}, {"a"}]:
            for call in [table.does, table.look]:
                for thing in (0, 1):
                    error = raised(call, value, thing)
                    self.assertIs(type(error), NoTest)
                    self.assertIs(error.name, value)


class Wrong(unittest.TestCase):
    def check(self, signs, word):
        for call in [lambda: Table(signs), lambda: Table(signs=signs)]:
            with self.subTest(signs=signs):
                error = raised(call)
                self.assertIs(type(error), InvalidTable)
                self.assertEqual(error.word, word)

    def test_any_value(self):
        for value in [*any_values(), {}, [("a", [("sets", "on")])], {"a"}, "a sets never"]:
            self.check(value, "signs")

    def test_keys(self):
        keys = [*BAD_NAMES, 0, 1, True, None, (), ("a",), ("a", "b"), InvalidTable("signs")]
        for key in keys:
            self.check({key: [("sets", "on")]}, "signs")
            self.check({"a": [("sets", "on")], key: [("sets", "on")]}, "signs")

    def test_values(self):
        for value in any_values():
            self.check({"a": value}, "signs")
            self.check({"a": [("sets", "on")], "b": value}, "signs")
        sign = ("sets", "on")
        for value in [sign, [sign] * 3, (sign,) * 4, {sign: 1}, {0: sign}, {sign}, iter([sign]), "sets on", ["sets on"]]:
            self.check({"a": value}, "signs")
            self.check({"b": value, "a": [sign]}, "signs")

    def test_signs(self):
        wrong = [*any_values(), ["sets", "on"], ("sets",), ("sets", "on", "on"), ("on", "sets"), ("sets", "sets"),
                 ("never", "on"), ("sets", None), (None, "on"), ("set", "on"), ("sets", "of"), ("Sets", "on"),
                 ("sets ", "on"), ("sets", ""), ("", "on"), (["sets"], "on"), ("sets", ["on"]), (("sets",), "on"),
                 (0, 1), (True, False), "sets", "on", ("sets", True)]
        wrong += [(value, "on") for value in any_values()]
        wrong += [("sets", value) for value in any_values() if value != "never"]
        for sign in wrong:
            self.check({"a": [sign]}, "signs")
            self.check({"a": [("sets", "on"), sign]}, "signs")
            self.check({"a": (sign, ("sets", "on"))}, "signs")
            self.check({"a": [("sets", "on")], "b": [sign]}, "signs")

    def test_things(self):
        one, two = [("sets", "on")], (("sets", "on"), ("leaves", "never"))
        self.check({"a": one, "b": two}, "things")
        self.check({"a": two, "b": one}, "things")
        self.check({"a": one, "b": one, "c": two}, "things")
        self.check({"a": two, "b": one, "c": two}, "things")

    def test_signs_ahead_of_things(self):
        one, two = [("sets", "on")], [("sets", "on"), ("leaves", "never")]
        self.check({"a": one, "b": two, "none": one}, "signs")
        self.check({"a": one, "b": two, "c": []}, "signs")
        self.check({"a": two, "b": one, "c": [("sets", "on"), 3]}, "signs")
        self.check({"a": one, "b": one * 3}, "signs")


class Played(unittest.TestCase):
    def test_single_rows(self):
        for told in tables():
            table = Table(told)
            for size in range(1, 5 if len(told) == 1 else 4 if len(told) == 2 else 3):
                for row in itertools.product(told, repeat=size):
                    self.assertEqual(table.play([row]).rows, (told_row(told, row),))

    def test_rows_side_by_side(self):
        for told in tables():
            table = Table(told)
            names = list(told)
            rows = [names, names * 2, names[::-1], [names[0]] * 3]
            run = table.play(rows)
            self.assertIs(type(run), Run)
            self.assertEqual(run.rows, tuple(told_row(told, row) for row in rows))
            self.assertEqual(table.play(rows=tuple(tuple(row) for row in rows)), run)
            self.assertEqual(run.orders, tuple(tuple(row) for row in rows))

    def test_ordinary(self):
        table = Table({"a": [("sets", "never")], "b": [("leaves", "on")], "c": [("clears", "off")]})
        self.assertEqual(str(table.play([["a", "b", "c", "b"], ["c"]])), "a b! c b | c!")
        self.assertEqual(str(table.play([["b"], ["a", "a", "b", "b"], ["a", "c", "c"]])), "b | a a b! b! | a c c!")

    def test_it_does_so_also_if_it_fails(self):
        table = Table({"a": [("sets", "off")], "b": [("clears", "on")]})
        self.assertEqual(str(table.play([["a", "a"], ["a", "b", "b"]])), "a! a | a! b! b")

    def test_two_things(self):
        table = Table({
            "a": [("sets", "never"), ("leaves", "never")], "b": [("leaves", "never"), ("sets", "never")],
            "c": [("leaves", "on"), ("leaves", "off")], "d": [("clears", "never"), ("sets", "on")],
        })
        self.assertEqual(str(table.play([["c", "b", "c", "a", "c", "d", "c", "d"]])), "c! b c a c! d! c d!")
        self.assertEqual(str(table.play([["b", "c"], ["a", "c"], ["d", "c"]])), "b c | a c! | d c")

    def test_later_changes_have_no_effect(self):
        rows = [["a", "b"], ["b"]]
        run = Table({"a": [("sets", "never")], "b": [("leaves", "on")]}).play(rows)
        self.assertEqual(rows, [["a", "b"], ["b"]])
        rows[0].append("a")
        rows.clear()
        self.assertEqual(str(run), "a b! | b")

    def test_the_same_again(self):
        table = Table({"a": [("sets", "off")], "b": [("clears", "on")]})
        first = table.play([["a", "b"]])
        table.play([["b", "a", "a"]])
        self.assertEqual(table.play([["a", "b"]]), first)
        self.assertEqual(str(table), "a sets off\nb clears on")

    def test_beyond_the_limits(self):
        told = {name: (SIGNS[at % 9],) for at, name in enumerate("abcdefghij")}
        row = list("abcdefghij") * 3
        self.assertEqual(Table(told).play([row] * 9).rows, (told_row(told, row),) * 9)


class PlayErrors(unittest.TestCase):
    TABLE = Table({"a": [("sets", "never")], "b": [("leaves", "on")]})

    def check(self, rows, kind, word, told):
        for call in [lambda: self.TABLE.play(rows), lambda: self.TABLE.play(rows=rows)]:
            with self.subTest(rows=rows):
                error = raised(call)
                self.assertIs(type(error), kind)
                self.assertEqual(getattr(error, word), told)

    def test_no_sequence_of_rows(self):
        for value in [*any_values(), {0: ["a"]}, "a", "ab", {"a"}, range(2), iter([["a"]])]:
            self.check(value, InvalidRows, "at", 0)

    def test_wrong_rows(self):
        for value in [*any_values(), {"a": 1}, "a", "ab", {"a"}, iter(["a"]), ("a", None), ["a", "B"]]:
            for at in range(4):
                self.check([["a"]] * at + [value], InvalidRows, "at", at)
                self.check((("a",),) * at + (value, ["b"]), InvalidRows, "at", at)

    def test_wrong_names(self):
        for value in [*BAD_NAMES, *any_values()]:
            self.check([["a"], ["b", value]], InvalidRows, "at", 1)
            self.check([[value, "a"]], InvalidRows, "at", 0)

    def test_pairs_are_no_names(self):
        self.check([["a"], [("a", True)]], InvalidRows, "at", 1)

    def test_the_first_wrong_row(self):
        self.check([["a"], [], 3], InvalidRows, "at", 1)
        self.check([["a"], ["a"], ["none"], []], InvalidRows, "at", 2)

    def test_names_that_are_not_there(self):
        self.check([["a", "z"]], NoTest, "name", "z")
        self.check([["a", "b"], ["b", "zz", "y"], ["x"]], NoTest, "name", "zz")
        self.check([["c", "b"], ["aa"]], NoTest, "name", "c")

    def test_wrong_rows_ahead_of_names_that_are_not_there(self):
        self.check([["z"], ["a"], []], InvalidRows, "at", 2)
        self.check([["z", "None"]], InvalidRows, "at", 0)

    def test_misses(self):
        for text, name in [("c", "c"), ("a b | b d c", "d"), ("a! z | y", "z")]:
            error = raised(self.TABLE.misses, Run.read(text))
            self.assertIs(type(error), NoTest)
            self.assertEqual(error.name, name)


class Misses(unittest.TestCase):
    def test_ordinary(self):
        table = Table({"a": [("sets", "never")], "b": [("leaves", "on")], "c": [("clears", "off")]})
        self.assertEqual(table.misses(Run.read("a b! c b | c!")), 0)
        self.assertEqual(table.misses(Run.read("a! b! c b | c!")), 1)
        self.assertEqual(table.misses(run=Run.read("a! b c! b! | c")), 5)
        self.assertEqual(table.misses(Run.read("a | a! | a!")), 2)
        self.assertEqual(table.misses(Run.read("b")), 0)

    def test_every_outcome(self):
        for told in itertools.islice(tables(), 0, None, 3):
            table = Table(told)
            names = list(told)
            for rows in [[names[:3]], [names[:2], names[-1:]], [names[:1] * 3]]:
                size = sum(len(row) for row in rows)
                due = [failed for row in rows for _, failed in told_row(told, row)]
                for outcome in itertools.product([False, True], repeat=size):
                    rest = list(outcome)
                    run = Run([[(name, rest.pop(0)) for name in row] for row in rows])
                    self.assertEqual(table.misses(run), sum(a != b for a, b in zip(due, outcome)))

    def test_a_long_run(self):
        table = Table({"a": [("sets", "off")]})
        run = Run.read("a! a a")
        for _ in range(6):
            run += run
        self.assertEqual(table.misses(run), 0)
        self.assertEqual(table.misses(run + Run.read("a")), 1)


class PoisonsAndHeals(unittest.TestCase):
    def test_every_pair(self):
        for told in tables():
            table = Table(told)
            for one, other in itertools.product(told, repeat=2):
                alone = told_outcome(told[other], [])
                behind = told_outcome(told[other], [told[one]])
                self.assertIs(table.poisons(one, other), behind and not alone)
                self.assertIs(table.heals(one, other), alone and not behind)

    def test_ordinary(self):
        table = Table({"a": [("sets", "never")], "b": [("leaves", "on")], "c": [("clears", "off")]})
        self.assertIs(table.poisons(one="a", other="b"), True)
        self.assertIs(table.heals(one="a", other="c"), True)
        self.assertIs(table.poisons("b", "a"), False)
        self.assertIs(table.heals("c", "c"), False)
        self.assertIs(table.poisons("a", "c"), False)

    def test_with_itself(self):
        self.assertIs(Table({"a": [("sets", "on")]}).poisons("a", "a"), True)
        self.assertIs(Table({"a": [("sets", "off")]}).heals("a", "a"), True)
        self.assertIs(Table({"a": [("leaves", "off")]}).heals("a", "a"), False)
        self.assertIs(Table({"a": [("clears", "on")]}).poisons("a", "a"), False)

    def test_no_test(self):
        table = Table({"a": [("sets", "on")], "b": [("leaves", "never")]})
        for value in [*any_values(), *BAD_NAMES, "c", ["a"], ("a",), {"a": 1}]:
            for call in [table.poisons, table.heals]:
                for args in [(value, "a"), ("a", value), (value, "z"), (value, ["y"]), (value, value)]:
                    error = raised(call, *args)
                    self.assertIs(type(error), NoTest)
                    self.assertIs(error.name, value)
                first = ["q"]
                self.assertIs(raised(call, first, value).name, first)


class Texts(unittest.TestCase):
    def test_told_text(self):
        self.assertEqual(str(Table({"a": [("sets", "never")]})), "a sets never")
        self.assertEqual(str(Table({"a": [("sets", "never"), ("leaves", "on")]})), "a sets never, leaves on")
        table = Table({"c": [("clears", "off")], "ab": [("leaves", "on")], "b": [("sets", "never")]})
        self.assertEqual(str(table), "ab leaves on\nb sets never\nc clears off")

    def test_text(self):
        for told in tables():
            lines = [f"{name} " + ", ".join(" ".join(sign) for sign in told[name]) for name in sorted(told)]
            table = Table(told)
            self.assertEqual(str(table), "\n".join(lines))
            for turned in [lines, lines[::-1], lines[1:] + lines[:1]]:
                read = Table.read(text="\n".join(turned))
                self.assertIs(type(read), Table)
                self.assertEqual(read, table)
                self.assertEqual((read.names, read.things, str(read)), (table.names, table.things, str(table)))
                self.assertEqual([read.does(name, 0) for name in told], [signs[0][0] for signs in told.values()])

    def test_lines_in_any_order(self):
        lines = ["a sets never, leaves on", "b leaves off, sets on", "cc clears on, sets off", "d leaves on, leaves on"]
        for turned in itertools.permutations(lines):
            self.assertEqual(str(Table.read("\n".join(turned))), "\n".join(lines))

    def check(self, text, at):
        with self.subTest(text=text):
            error = raised(Table.read, text)
            self.assertIs(type(error), InvalidText)
            self.assertIs(type(error.at), int)
            self.assertEqual(error.at, at)

    WRONG = ["", " ", "a", "a ", "a sets", "a sets ", "a sets on ", " a sets on", "a  sets on", "a sets  on", "sets on",
             "none sets on", "abcde sets on", "A sets on", "a1 sets on", "a! sets on", "a set on", "a sets of",
             "a on sets", "a sets on,", "a sets on, ", "a sets on,leaves on", "a sets on , leaves on",
             "a sets on,  leaves on", "a sets on leaves on", "a sets on, leaves", "a sets on, leaves on, sets on",
             "a sets on, leaves on,", "a , sets on", "a, sets on", "a Sets on", "a sets On", "a sets on!", "a\tsets on",
             "a sets on\r", "a sets on | sets on", "\u00e4 sets on", "a sets\u00a0on", "a sets on, b sets on",
             "a sets on; sets on", "a b sets on", "tests a", "a sets on, on sets", "a leaves  never"]

    def test_wrong_lines(self):
        for line in self.WRONG:
            self.check(line, 0)
            self.check("b sets on\n" + line, 1)
            self.check("b sets on\nc leaves never\n" + line + "\nd sets off", 2)
            self.check("b sets on, clears on\n" + line, 1)
            self.check(line + "\nb sets on\n" + line, 0)

    def test_empty_lines(self):
        self.check("", 0)
        self.check("\n", 0)
        self.check("\na sets on", 0)
        self.check("a sets on\n", 1)
        self.check("a sets on\nb sets on\n", 2)
        self.check("a sets on\n\nb sets on", 1)

    def test_a_name_for_the_second_time(self):
        self.check("a sets on\na sets on", 1)
        self.check("a sets on\nb sets on\nc sets on\nb leaves never\na sets on", 3)

    def test_another_number_of_signs(self):
        self.check("a sets on\nb sets on, leaves on", 1)
        self.check("a sets on, leaves on\nb sets on", 1)
        self.check("a sets on\nb sets on\nc sets on, sets on\nb sets on", 2)
        self.check("b sets on, sets on\na sets on, sets on\nc sets on, sets on\nd sets on", 3)

    def test_the_first_wrong_line(self):
        self.check("a sets on\na sets on\nnone sets on", 1)
        self.check("a sets on\nnone sets on\na sets on", 1)
        self.check("a sets on\nb sets on, sets on\n", 1)

    def test_equal(self):
        told = list(tables())[::5]
        texts = [str(Table(signs)) for signs in told]
        for (one, text), (other, another) in itertools.product(list(zip(told, texts)), repeat=2):
            self.assertIs(Table(one) == Table(other), text == another)
            self.assertIs(Table(one) != Table(other), text != another)

    def test_equal_whatever_the_order(self):
        one = Table({"a": [("sets", "on")], "b": (("leaves", "off"),)})
        self.assertIs(one == Table({"b": [("leaves", "off")], "a": [("sets", "on")]}), True)
        self.assertIs(one == Table({"b": [("leaves", "off")], "c": [("sets", "on")]}), False)
        self.assertIs(one == Table({"b": [("leaves", "on")], "a": [("sets", "on")]}), False)
        self.assertIs(one == Table({"a": [("sets", "on")]}), False)

    def test_equal_to_nothing_else(self):
        class Yes:
            names = ("a",)

            def __str__(self):
                return "a sets never"

        table = Table({"a": [("sets", "never")]})
        others = [value for value in any_values() if not isinstance(value, Table)]
        for other in [*others, "a sets never", {"a": [("sets", "never")]}, {"a": (("sets", "never"),)}, ("a",), Yes()]:
            self.assertIs(table == other, False)
            self.assertIs(table != other, True)


class Example(unittest.TestCase):
    def test_section_5(self):
        table = Table({"a": [("sets", "never")], "b": [("leaves", "on")], "c": [("clears", "off")]})
        self.assertEqual(
            (str(table.play([["a", "b", "c", "b"], ["c"]])), table.poisons("a", "b"), table.heals("a", "c"),
             table.heals("c", "c")),
            ("a b! c b | c!", True, True, False))
