"""Points 22 and 23, and 1 to 3 as far as they speak of desks."""

import itertools
import unittest

from poisonruns import deciding
from poisonruns.bench import Bench
from poisonruns.desk import Desk
from poisonruns.errors import Impossible, InvalidCommand, InvalidEvidence, InvalidRows, InvalidText, NoTest
from poisonruns.evidence import Evidence
from poisonruns.orders import safe_order
from tests.plain import some_evidences, some_rows
from tests.samples import BAD_NAMES, any_values, raised

# What is said one after another, and what each says.
TOLD = [
    ("tests b a c", "3"), ("many", "729"), ("outlook a b | c", "open open | open"), ("poisons", "none"),
    ("heals", "none"), ("order", "none"), ("undo", "nothing"), ("seen a b!", "seen"), ("seen b | a", "seen"),
    ("seen a c b", "seen"), ("many", "12"), ("outlook c a b | c", "open passes fails | open"), ("poisons", "a b"),
    ("heals", "none"), ("order", "a c b"), ("allow 1", "allowed"), ("many", "222"), ("undo", "undone"),
    ("many", "12"), ("allow 99", "allowed"), ("many", "729"), ("undo", "undone"), ("undo", "undone"), ("many", "54"),
    ("undo", "undone"), ("undo", "undone"), ("undo", "nothing"), ("many", "729"),
    ("two tests q", "1"), ("many", "81"), ("seen q q!", "seen"), ("poisons", "q q"), ("many", "11"),
    ("seen q!", "seen"), ("many", "0"), ("undo", "undone"), ("many", "11"),
    ("tests no", "1"), ("seen no! no no", "seen"), ("many", "1"), ("heals", "no no"), ("order", "none"),
    ("seen no", "seen"), ("many", "0"), ("allow 1", "allowed"), ("many", "6"), ("allow 0", "allowed"), ("many", "0"),
    ("undo", "undone"), ("undo", "undone"), ("undo", "undone"), ("heals", "no no"), ("undo", "undone"),
    ("undo", "nothing"), ("tests no", "1"), ("undo", "nothing"),
]
FIRST = ["tests a", "tests a b", "two tests a", "two tests b a"]
OTHERS = ["seen a", "allow 1", "many", "outlook a", "poisons", "heals", "order", "undo"]


def state(desk):
    """All that can be seen of a desk; it is left without deeds."""
    found = [str(desk.bench.evidence)]
    while desk.bench.undo():
        found.append(str(desk.bench.evidence))
    return found


def desk_of(commands):
    desk = Desk()
    for command in commands:
        desk.say(command)
    return desk


def pairs_text(pairs):
    return ", ".join(one + " " + other for one, other in pairs) or "none"


class Told(unittest.TestCase):
    def test_one_after_another(self):
        desk = Desk()
        for at, (command, due) in enumerate(TOLD):
            with self.subTest(at, command=command):
                found = desk.say(command) if at % 2 else desk.say(command=command)
                self.assertEqual(found, due)
                self.assertIs(type(found), str)

    def test_the_bench(self):
        desk = Desk()
        self.assertIsNone(desk.bench)
        self.assertIn("bench", vars(desk))
        told = [("tests b a", ("a", "b"), 1), ("two tests c", ("c",), 2), ("tests c", ("c",), 1)]
        for command, names, things in told:
            before = desk.bench
            desk.say(command)
            self.assertIs(type(desk.bench), Bench)
            self.assertIsNot(desk.bench, before)
            self.assertEqual(desk.bench.evidence, Evidence(names, (), things))
            self.assertEqual((desk.bench.runs, len(desk.bench)), ((), 0))
            desk.say("seen c" if "c" in names else "seen a b")

    def test_tests_begin_anew(self):
        for again, due in zip(FIRST, ["1", "2", "1", "2"]):
            desk = desk_of(["tests a b", "seen a b!", "allow 2"])
            old = desk.bench
            self.assertEqual(desk.say(again), due)
            self.assertEqual(desk.say("undo"), "nothing")
            self.assertEqual((len(desk.bench), desk.bench.evidence.slips), (0, 0))
            # The bench that the desk had goes on for those who hold it.
            self.assertEqual((len(old), str(old.evidence)), (2, "tests a b\nthings 1 slips 2\na b!"))

    def test_a_bench_that_is_changed_by_its_own_methods(self):
        desk = desk_of(["tests a b"])
        bench = desk.bench
        bench.see(Evidence.read("tests a b\nthings 1 slips 0\na b!")[0])
        bench.allow(1)
        self.assertEqual(desk.say("many"), str(deciding.many(bench.evidence)))
        self.assertEqual(desk.say("undo"), "undone")
        self.assertEqual((bench.evidence.slips, len(bench)), (0, 1))
        with bench.trial():
            self.assertEqual(desk.say("seen b!"), "seen")
            self.assertEqual(len(bench), 2)
        self.assertIs(desk.bench, bench)
        self.assertEqual((len(bench), str(bench.evidence)), (1, "tests a b\nthings 1 slips 0\na b!"))
        self.assertEqual(desk.say("undo"), "undone")
        self.assertEqual(desk.say("undo"), "nothing")

    def test_desks_are_apart(self):
        one, other = desk_of(["tests a"]), Desk()
        self.assertIsNone(other.bench)
        other.say("tests a")
        one.say("seen a!")
        self.assertEqual((one.say("many"), other.say("many")), ("3", "9"))

    def test_not_iterable(self):
        for desk in [Desk(), desk_of(["tests a", "seen a"])]:
            self.assertRaises(TypeError, iter, desk)
            self.assertRaises(TypeError, list, desk)
            self.assertRaises(TypeError, len, desk)

    def test_the_numbers_of_allow(self):
        desk = desk_of(["tests a"])
        for number in range(100):
            self.assertEqual(desk.say(f"allow {number}"), "allowed")
            self.assertEqual(desk.bench.evidence.slips, number)
        self.assertEqual(len(desk.bench), 100)


class AsTheFunctions(unittest.TestCase):
    """What is said of an evidence is what the functions tell of it."""

    def evidences(self):
        yield from some_evidences(500, 25, ["a"], 1)
        yield from some_evidences(501, 40, ["b", "ab"], 1)
        yield from some_evidences(502, 40, ["c", "a", "bb"], 1)
        yield from some_evidences(503, 10, ["d", "a", "c", "b"], 1)
        yield from some_evidences(504, 25, ["no"], 2)
        yield from some_evidences(505, 10, ["y", "x"], 2)
        yield from [Evidence.read(text) for text in [
            "tests a b c\nthings 1 slips 0\na! b\nb a! c! | c\na c", "tests a b\nthings 1 slips 0\na! b | b a\nb b! a",
            "tests a b\nthings 1 slips 0\na b! a b!\na a | b b",
        ]]

    def desk(self, evidence):
        head = "two tests" if evidence.things == 2 else "tests"
        commands = [" ".join([head, *evidence.names]), *[f"seen {run}" for run in evidence.runs]]
        return desk_of([*commands, f"allow {evidence.slips}"])

    def test_as_the_functions(self):
        found = {"poisons": set(), "heals": set(), "order": set(), "many": set()}
        for at, evidence in enumerate(self.evidences()):
            desk = self.desk(evidence)
            self.assertEqual(desk.bench.evidence, evidence)
            self.assertEqual(len(desk.bench), len(evidence) + 1)
            self.assertEqual(desk.say("many"), str(deciding.many(evidence)))
            if deciding.many(evidence) == 0:
                self.check_torn(desk)
                continue
            rows = some_rows(at, evidence.names)
            due = " | ".join(" ".join(row) for row in deciding.outlook(evidence, rows))
            self.assertEqual(desk.say("outlook " + " | ".join(" ".join(row) for row in rows)), due)
            order = safe_order(evidence)
            dues = {"poisons": pairs_text(deciding.poisons(evidence)), "heals": pairs_text(deciding.heals(evidence)),
                    "order": "none" if order is None else " ".join(order), "many": str(deciding.many(evidence))}
            for command, text in dues.items():
                self.assertEqual(desk.say(command), text)
                found[command].add(text if text == "none" else len(text.split(", ")))
            self.assertEqual(desk.bench.evidence, evidence)
        self.assertLessEqual({"none", 1, 2}, found["poisons"])
        self.assertLessEqual({"none", 1}, found["heals"])
        self.assertLessEqual({"none", 1}, found["order"])

    def check_torn(self, desk):
        for command in ["poisons", "heals", "order", "outlook " + desk.bench.evidence.names[0]]:
            self.assertIs(type(raised(desk.say, command)), Impossible)

    def test_several_pairs(self):
        desk = desk_of(["tests a b c", "seen a b! | b | c a! | a", "seen c c | b a c"])
        self.assertEqual(desk.say("poisons"), "a a, a b, c a, c b")
        desk = desk_of(["tests a b", "seen a! | b a | b b", "seen a! a b"])
        self.assertEqual(desk.say("heals"), "a a, b a")


class Wrong(unittest.TestCase):
    def desks(self):
        """Desks without a bench, with one that is new, and with one that has done something."""
        return [Desk(), desk_of(["tests a b"]), desk_of(["two tests b a", "seen a b!", "allow 3", "seen b"])]

    def check(self, desk, command, kind):
        bench = desk.bench
        before = None if bench is None else (str(bench.evidence), len(bench))
        error = raised(desk.say, command)
        self.assertIs(type(error), kind, command)
        self.assertIs(desk.bench, bench)
        self.assertEqual(None if bench is None else (str(bench.evidence), len(bench)), before)
        return error

    def test_any_value(self):
        for desk in self.desks():
            for value in [*any_values(), b"many", ["many"], ("tests", "a"), {"many": 1}, desk]:
                self.check(desk, value, InvalidCommand)

    def test_blanks_and_newlines(self):
        for desk in self.desks():
            for command in [*FIRST, *OTHERS, "seen a | b", "outlook a | b"]:
                for wrong in [" " + command, command + " ", "  " + command, command + "\n", "\n" + command,
                              command + " \n", command + "\n" + command, "\t" + command, command.upper()]:
                    self.check(desk, wrong, InvalidCommand)
                for blank in ["  ", "\n", " \n", "\t", "", "_"] if " " in command else []:
                    self.check(desk, command.replace(" ", blank, 1), InvalidCommand)

    def test_other_blanks_belong_to_words(self):
        for desk in self.desks():
            for command in ["many\t", "undo\r", "order\x0b", "poisons\u00a0", "heals\u2028"]:
                self.check(desk, command, InvalidCommand)
            self.assertEqual(self.check(desk, "tests a\t", InvalidEvidence).word, "names")
            self.assertEqual(self.check(desk, "two tests a\u00a0b", InvalidEvidence).word, "names")
            if desk.bench is not None:
                self.assertEqual(self.check(desk, "seen a\tb", InvalidText).at, 0)
                self.assertEqual(self.check(desk, "outlook a\rb", InvalidRows).at, 0)

    def test_other_words(self):
        for desk in self.desks():
            for command in ["", " ", "  ", "\n", "test a", "Tests a", "three tests a", "one tests a", "two", "two a",
                            "two test a", "two many", "tests", "two tests", "two two tests a", "see a", "allows 1",
                            "poison", "heal", "orders", "safe_order", "redo", "bench", "none", "nothing", "undone",
                            "a", "a b", "|", "1", "say many", "many.", "drop 0", "least_slips", "seen", "allow",
                            "outlook", "things 1 slips 0", "len", "keys", "get"]:
                self.check(desk, command, InvalidCommand)

    def test_words_too_many(self):
        for desk in self.desks():
            for command in ["many", "poisons", "heals", "order", "undo"]:
                for rest in ["a", "1", "a b", "|", command, "none"]:
                    self.check(desk, f"{command} {rest}", InvalidCommand)
            for rest in ["1 2", "1 a", "0 0", "a b"]:
                self.check(desk, "allow " + rest, InvalidCommand)

    def test_wrong_numbers(self):
        for desk in self.desks():
            for word in ["01", "00", "100", "-1", "+1", "1.", "1.0", "a", "1a", "1_0", "0x1", "-0", "|", "1!", "\u0661",
                         "\u00b2", "\uff11", "09", "000", "1\t", "none", "True"]:
                self.check(desk, "allow " + word, InvalidCommand)

    def test_empty_rows(self):
        for desk in self.desks():
            for rows in ["|", "| a", "a |", "a | | b", "| |", "a b | b | | a", "| a |", "| A", "zz |"]:
                self.check(desk, "outlook " + rows, InvalidCommand)

    def test_without_a_bench(self):
        for command in [*OTHERS, "seen A", "seen |", "allow 0", "outlook A", "outlook a | b"]:
            self.check(Desk(), command, InvalidCommand)
        desk = Desk()
        self.check(desk, "tests a a", InvalidEvidence)
        self.check(desk, "two tests A", InvalidEvidence)
        for command in OTHERS:
            self.check(desk, command, InvalidCommand)

    def test_errors_of_evidence(self):
        for desk in self.desks():
            words = [word for word in BAD_NAMES if word and " " not in word and "\n" not in word]
            for word in [*words, "a a", "a b a", "b A", "none", "a none", "tests|", "a | b"]:
                for head in ["tests ", "two tests "]:
                    self.assertEqual(self.check(desk, head + word, InvalidEvidence).word, "names")

    def test_errors_of_reading(self):
        for desk in self.desks()[1:]:
            for text in ["|", "a |", "| a", "a | | b", "A", "a!!", "!", "a !", "none", "a none!", "abcde", "a|b", "1",
                         "a\tb", "z! |", "a b|"]:
                self.assertEqual(self.check(desk, "seen " + text, InvalidText).at, 0)

    def test_errors_of_see(self):
        for desk in self.desks()[1:]:
            for text in ["c", "a b | z!", "seen", "seen a", "a! bb", "many"]:
                self.assertEqual(self.check(desk, "seen " + text, InvalidEvidence).word, "runs")

    def test_errors_of_outlook(self):
        for desk in self.desks()[1:]:
            for rows, at in [("A", 0), ("a! b", 0), ("a | none", 1), ("a b | b a | a|b | 1", 2), ("zz | abcde", 1),
                             ("a | b!", 1)]:
                self.assertEqual(self.check(desk, "outlook " + rows, InvalidRows).at, at)
            for rows, name in [("c", "c"), ("a | b d | e", "d"), ("many", "many"), ("a b zz", "zz")]:
                self.assertEqual(self.check(desk, "outlook " + rows, NoTest).name, name)

    def test_errors_of_outlook_ahead_of_impossible(self):
        desk = desk_of(["tests a", "seen a | a!"])
        self.assertEqual(self.check(desk, "outlook a | A", InvalidRows).at, 1)
        self.assertEqual(self.check(desk, "outlook a | b", NoTest).name, "b")
        for command in ["outlook a", "poisons", "heals", "order"]:
            self.check(desk, command, Impossible)
        self.check(desk, "outlook a |", InvalidCommand)
        self.check(desk, "poisons a", InvalidCommand)
        self.assertEqual(desk.say("many"), "0")

    def test_the_bench_can_still_take_back(self):
        desk, same = [desk_of(["tests a b", "seen a b!", "allow 2", "seen b a!"]) for _ in range(2)]
        for command in ["many 1", "tests a a", "seen A", "seen c", "allow 100", "outlook c", None]:
            self.assertIsNotNone(raised(desk.say, command))
        self.assertEqual(state(desk), state(same))


class Limits(unittest.TestCase):
    def test_the_largest_evidences(self):
        for head, names in [("tests", "abcd"), ("two tests", "ab")]:
            rows = [" ".join(itertools.islice(itertools.cycle(names[at:] + names[:at]), 8)) for at in range(4)]
            desk = desk_of([" ".join([head, *names]), *["seen " + " | ".join(rows)] * 8, "allow 2"])
            self.assertEqual(desk.say("many"), str(deciding.many(desk.bench.evidence)))
            self.assertEqual(desk.say("outlook " + " | ".join(rows)), " | ".join([" ".join(["passes"] * 8)] * 4))
            self.assertEqual((desk.say("order"), desk.say("poisons"), desk.say("heals")),
                             (" ".join(names), "none", "none"))

    def test_somewhat_beyond(self):
        desk = desk_of(["tests a b c d e", *["seen a b! c | b | d e"] * 12])
        self.assertEqual(desk.say("poisons"), "a b")
        self.assertEqual(desk.say("outlook a b | d e c b a"), "passes fails | passes passes open open open")
