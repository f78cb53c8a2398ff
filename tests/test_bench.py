"""Point 21, and 1 to 3 as far as they speak of benches."""

import random
import unittest

from poisonruns.bench import Bench
from poisonruns.deciding import many
from poisonruns.errors import InvalidEvidence, NoRun, Refused
from poisonruns.evidence import Evidence
from poisonruns.runs import Run
from tests.samples import any_values, raised

START = Evidence.read("tests a b c\nthings 1 slips 0\na b!\nb | a")
ONE = Run.read("a c b")
TWO = Run.read("b! | c")
OTHER = Run.read("a d")


class Ending(Exception):
    pass


def no_runs():
    """Values of every kind, none of them a run of the tests of START."""
    values = [*any_values(), {"a": True}, OTHER, Run.read("a b | c d"), "a b!", [[("a", True)]], START, Bench(START)]
    return [value for value in values if not isinstance(value, Run) or "d" in value.names]


def state(bench):
    """All that can be seen of a bench but what taking back shows."""
    return str(bench.evidence), [str(run) for run in bench.runs], len(bench)


def whole_state(bench):
    """All that can be seen of a bench; it is empty of deeds behind that."""
    found = [state(bench)]
    while bench.undo():
        found.append(state(bench))
    return found


def grown():
    """A bench that has done each kind of deed."""
    bench = Bench(START)
    bench.see(ONE)
    bench.allow(2)
    bench.several([TWO, ONE])
    bench.drop(0)
    return bench


class Properties(unittest.TestCase):
    def test_at_the_beginning(self):
        for evidence in [START, Evidence(["a"]), Evidence(["b", "a"], [Run.read("b")], 2, 1)]:
            for bench in [Bench(evidence), Bench(evidence=evidence)]:
                self.assertEqual(bench.evidence, evidence)
                self.assertEqual(bench.runs, evidence.runs)
                self.assertIs(type(bench.runs), tuple)
                self.assertEqual(len(bench), 0)
                self.assertIs(bench.undo(), False)
                self.assertEqual(bench.evidence, evidence)

    def test_not_iterable(self):
        for bench in [Bench(START), grown()]:
            self.assertRaises(TypeError, iter, bench)
            self.assertRaises(TypeError, list, bench)
            self.assertRaises(TypeError, lambda: ONE in bench)

    def test_benches_of_one_evidence_are_apart(self):
        one, other = Bench(START), Bench(START)
        one.see(ONE)
        self.assertEqual((len(one), len(other)), (1, 0))
        self.assertEqual(other.evidence, START)
        self.assertEqual(len(START), 2)


class Deeds(unittest.TestCase):
    def test_one_after_another(self):
        bench = Bench(START)
        self.assertIsNone(bench.see(ONE))
        self.assertEqual(bench.evidence, START.plus(ONE))
        self.assertEqual([str(run) for run in bench.runs], ["a b!", "b | a", "a c b"])
        self.assertIsNone(bench.allow(3))
        self.assertEqual(bench.evidence, START.plus(ONE).allowing(3))
        self.assertIsNone(bench.drop(1))
        self.assertEqual(bench.evidence, START.plus(ONE).allowing(3).without(1))
        self.assertEqual([str(run) for run in bench.runs], ["a b!", "a c b"])
        self.assertIsNone(bench.several((TWO, ONE)))
        self.assertEqual([str(run) for run in bench.runs], ["a b!", "a c b", "b! | c", "a c b"])
        self.assertEqual(len(bench), 4)

    def test_by_name(self):
        bench = Bench(evidence=START)
        bench.see(run=ONE)
        bench.allow(slips=1)
        bench.several(runs=[TWO])
        bench.drop(at=0)
        self.assertEqual(bench.evidence, START.plus(ONE).allowing(1).plus(TWO).without(0))
        self.assertEqual(len(bench), 4)

    def test_the_same_slips_again_are_a_deed(self):
        bench = Bench(START)
        bench.allow(0)
        bench.allow(0)
        self.assertEqual((len(bench), bench.evidence), (2, START))
        self.assertEqual([bench.undo(), bench.undo(), bench.undo()], [True, True, False])

    def test_the_same_run_again_is_a_deed(self):
        bench = Bench(START)
        bench.see(ONE)
        bench.see(ONE)
        self.assertEqual((len(bench), len(bench.runs)), (2, 4))

    def test_beyond_the_limits(self):
        bench = Bench(START)
        for at in range(30):
            bench.see(ONE)
            bench.allow(10 ** at)
        self.assertEqual((len(bench), len(bench.runs), bench.evidence.slips), (60, 32, 10 ** 29))
        while bench.undo():
            pass
        self.assertEqual(bench.evidence, START)


class Refusing(unittest.TestCase):
    """Each error, behind which the bench is as it was, also what can be taken back."""

    def check(self, bench, call, value, kind):
        before = state(bench)
        error = raised(call, value)
        self.assertIs(type(error), kind)
        self.assertEqual(state(bench), before)
        return error

    def test_see(self):
        for bench in [Bench(START), grown()]:
            for value in [*no_runs(), bench]:
                self.assertEqual(self.check(bench, bench.see, value, InvalidEvidence).word, "runs")
            self.assertEqual(whole_state(bench)[-1], state(Bench(START)))

    def test_allow(self):
        for bench in [Bench(START), grown()]:
            for value in any_values():
                if type(value) is int and value >= 0:
                    bench.allow(value)
                    self.assertEqual(bench.evidence.slips, value)
                    bench.undo()
                else:
                    self.assertEqual(self.check(bench, bench.allow, value, InvalidEvidence).word, "slips")

    def test_drop(self):
        for bench in [Bench(START), grown(), Bench(Evidence(["a"]))]:
            for value in [-1, -2, len(bench.runs), len(bench.runs) + 1, 10 ** 30, -10 ** 30]:
                self.assertIs(self.check(bench, bench.drop, value, NoRun).at, value)

    def test_several(self):
        for bench in [Bench(START), grown()]:
            for value in no_runs():
                for at in (0, 1, 3):
                    for kind in (list, tuple):
                        runs = kind([ONE, TWO, ONE][:at] + [value, TWO, None])
                        error = self.check(bench, bench.several, runs, Refused)
                        self.assertEqual(error.at, at)
                        self.assertIs(type(error.__cause__), InvalidEvidence)
                        self.assertEqual(error.__cause__.word, "runs")
            self.assertEqual(whole_state(bench)[-1], state(Bench(START)))

    def test_what_can_be_taken_back_stays(self):
        bench = grown()
        for call, value in [(bench.see, OTHER), (bench.allow, -1), (bench.drop, 9), (bench.several, [ONE, OTHER])]:
            self.assertIsNotNone(raised(call, value))
        self.assertEqual(whole_state(bench), whole_state(grown()))


class Several(unittest.TestCase):
    def test_lists_and_tuples(self):
        for runs in [[ONE], (ONE, TWO), [TWO, TWO, ONE]]:
            bench = Bench(START)
            self.assertIsNone(bench.several(runs))
            self.assertEqual(bench.runs, START.runs + tuple(runs))
            self.assertEqual(len(bench), 1)
            self.assertIs(bench.undo(), True)
            self.assertEqual((bench.evidence, len(bench)), (START, 0))

    def test_none_at_all_is_no_deed(self):
        for runs in ([], ()):
            bench = grown()
            self.assertIsNone(bench.several(runs))
            self.assertEqual(whole_state(bench), whole_state(grown()))

    def test_later_changes_have_no_effect(self):
        bench = Bench(START)
        runs = [ONE, TWO]
        bench.several(runs)
        self.assertEqual(runs, [ONE, TWO])
        runs.clear()
        self.assertEqual(len(bench.runs), 4)


class Undo(unittest.TestCase):
    def test_until_there_is_none(self):
        bench = grown()
        told = [START, START.plus(ONE), START.plus(ONE).allowing(2),
                START.plus(ONE).allowing(2).plus(TWO).plus(ONE)]
        for left in (3, 2, 1, 0):
            self.assertIs(bench.undo(), True)
            self.assertEqual((bench.evidence, len(bench)), (told[left], left))
        for _ in range(3):
            self.assertIs(bench.undo(), False)
            self.assertEqual((bench.evidence, bench.runs, len(bench)), (START, START.runs, 0))

    def test_undo_is_no_deed(self):
        bench = grown()
        bench.undo()
        bench.see(TWO)
        self.assertEqual(len(bench), 4)
        self.assertIs(bench.undo(), True)
        self.assertEqual(bench.evidence, START.plus(ONE).allowing(2).plus(TWO).plus(ONE))

    def test_what_was_handed_out_stays(self):
        bench = Bench(START)
        bench.see(ONE)
        evidence, runs, text = bench.evidence, bench.runs, str(bench.evidence)
        bench.see(TWO)
        bench.allow(2)
        bench.drop(0)
        bench.undo()
        self.assertEqual((str(evidence), evidence.runs, runs), (text, START.runs + (ONE,), START.runs + (ONE,)))


class Trial(unittest.TestCase):
    def test_the_value_is_the_bench(self):
        bench = Bench(START)
        with bench.trial() as held:
            self.assertIs(held, bench)

    def test_all_is_as_it_was(self):
        bench = grown()
        with bench.trial():
            bench.see(ONE)
            bench.allow(7)
            bench.drop(1)
            bench.several([ONE, TWO])
            self.assertEqual(len(bench), 8)
            self.assertEqual(bench.evidence.slips, 7)
        self.assertEqual(whole_state(bench), whole_state(grown()))

    def test_undo_beyond_what_was_done_within(self):
        bench = grown()
        with bench.trial():
            bench.see(ONE)
            while bench.undo():
                pass
            self.assertEqual((bench.evidence, len(bench)), (START, 0))
        self.assertEqual(whole_state(bench), whole_state(grown()))
        bench = grown()
        with bench.trial():
            bench.undo()
            bench.undo()
            bench.see(TWO)
        self.assertEqual(whole_state(bench), whole_state(grown()))

    def test_nothing_done_within(self):
        bench = grown()
        with bench.trial():
            pass
        self.assertEqual(whole_state(bench), whole_state(grown()))

    def test_an_error_goes_on(self):
        for kind in [Ending, KeyError, KeyboardInterrupt]:
            bench = grown()
            with self.assertRaises(kind):
                with bench.trial():
                    bench.see(ONE)
                    bench.undo()
                    bench.undo()
                    raise kind("now")
            self.assertEqual(whole_state(bench), whole_state(grown()))

    def test_an_error_of_the_bench_goes_on(self):
        bench = grown()
        with self.assertRaises(InvalidEvidence) as caught:
            with bench.trial():
                bench.see(ONE)
                bench.see(OTHER)
        self.assertEqual(caught.exception.word, "runs")
        self.assertEqual(whole_state(bench), whole_state(grown()))

    def test_left_by_return_and_break(self):
        bench = grown()

        def leave():
            with bench.trial() as held:
                held.see(ONE)
                return len(held)
        self.assertEqual(leave(), 5)
        for _ in range(3):
            with bench.trial():
                bench.drop(0)
                break
        self.assertEqual(whole_state(bench), whole_state(grown()))

    def test_blocks_within_blocks(self):
        bench = Bench(START)
        bench.see(ONE)
        with bench.trial():
            bench.allow(1)
            inner = state(bench)
            with bench.trial() as held:
                held.drop(0)
                with held.trial():
                    held.undo()
                    held.undo()
                    held.undo()
                    self.assertEqual(held.evidence, START)
                self.assertEqual((len(held), len(held.runs)), (3, 2))
            self.assertEqual(state(bench), inner)
            self.assertIs(bench.undo(), True)
            self.assertEqual(bench.evidence, START.plus(ONE))
        self.assertEqual((bench.evidence, len(bench)), (START.plus(ONE), 1))

    def test_as_it_was_when_the_block_was_entered(self):
        bench = Bench(START)
        early = bench.trial()
        bench.see(ONE)
        with early:
            bench.see(TWO)
        self.assertEqual((bench.evidence, len(bench)), (START.plus(ONE), 1))

    def test_a_new_one_each_time(self):
        bench = Bench(START)
        self.assertIsNot(bench.trial(), bench.trial())
        for at in range(3):
            bench.see(ONE)
            with bench.trial():
                bench.allow(at)
            self.assertEqual((len(bench), bench.evidence.slips), (at + 1, 0))

    def test_a_trial_that_is_not_entered_changes_nothing(self):
        bench = grown()
        bench.trial()
        self.assertEqual(whole_state(bench), whole_state(grown()))

    def test_what_was_handed_out_stays(self):
        bench = grown()
        with bench.trial():
            bench.see(TWO)
            within = bench.evidence
            text = str(within)
        self.assertEqual(str(within), text)
        self.assertEqual(len(within), len(bench.evidence) + 1)

    def test_two_benches(self):
        one, other = Bench(START), Bench(START)
        with one.trial(), other.trial():
            one.see(ONE)
            other.allow(1)
            other.allow(2)
            self.assertEqual((len(one), len(other)), (1, 2))
        self.assertEqual((len(one), len(other)), (0, 0))
        with one.trial():
            other.see(ONE)
        self.assertEqual((len(one), len(other)), (0, 1))


class Within(unittest.TestCase):
    def test_what_the_work_returns(self):
        bench = grown()
        for value in [None, 0, (1, [2]), "a", bench, ONE]:
            self.assertIs(bench.within(lambda held: value), value)
            self.assertIs(bench.within(work=lambda held: value), value)

    def test_the_work_gets_the_bench(self):
        bench = grown()
        found = []
        self.assertIsNone(bench.within(found.append))
        self.assertEqual(len(found), 1)
        self.assertIs(found[0], bench)

    def test_all_is_as_it_was(self):
        def work(bench):
            bench.see(ONE)
            bench.undo()
            bench.undo()
            bench.undo()
            bench.allow(5)
            return bench.evidence
        bench = grown()
        evidence = bench.within(work)
        self.assertEqual(str(evidence), str(START.plus(ONE).allowing(5)))
        self.assertEqual(whole_state(bench), whole_state(grown()))

    def test_an_error_goes_on(self):
        def work(bench):
            bench.drop(0)
            bench.drop(99)
        bench = grown()
        self.assertEqual(raised(bench.within, work).at, 99)
        self.assertEqual(whole_state(bench), whole_state(grown()))

    def test_within_within(self):
        def ask(bench):
            bench.see(Run.read("c"))
            return many(bench.evidence)

        def work(bench):
            bench.see(ONE)
            return many(bench.evidence), bench.within(ask), many(bench.evidence)
        bench = Bench(START)
        self.assertEqual(bench.within(work), (12, 6, 12))
        self.assertEqual((bench.evidence, len(bench)), (START, 0))


class Runs(unittest.TestCase):
    """`bench.runs` at each time, which the bench keeps beside its evidence."""

    def check(self, bench, due=None):
        self.assertIs(type(bench.runs), tuple)
        self.assertEqual(bench.runs, bench.evidence.runs)
        if due is not None:
            self.assertEqual([str(run) for run in bench.runs], due)

    def refuse(self, bench):
        """Each kind of deed, refused."""
        before = [str(run) for run in bench.runs]
        for call, value in [(bench.see, OTHER), (bench.see, None), (bench.allow, -1), (bench.allow, True),
                            (bench.drop, len(before)), (bench.drop, -1), (bench.several, [ONE, OTHER]),
                            (bench.several, [None])]:
            self.assertIsNotNone(raised(call, value))
            self.check(bench, before)

    def test_when_it_is_made(self):
        self.check(Bench(START), ["a b!", "b | a"])
        self.check(Bench(Evidence(["a"])), [])
        self.check(Bench(Evidence(["a", "b"], [Run.read("b")], 2, 1)), ["b"])

    def test_behind_each_kind_of_deed_refused_deed_and_undo(self):
        bench, due = Bench(START), ["a b!", "b | a"]
        told = [due]
        for call, value, due in [
                (bench.see, ONE, ["a b!", "b | a", "a c b"]),
                (bench.drop, 0, ["b | a", "a c b"]),
                (bench.allow, 2, ["b | a", "a c b"]),
                (bench.several, [TWO, ONE], ["b | a", "a c b", "b! | c", "a c b"]),
                (bench.drop, 1, ["b | a", "b! | c", "a c b"]),
                (bench.several, (TWO,), ["b | a", "b! | c", "a c b", "b! | c"]),
                (bench.drop, 3, ["b | a", "b! | c", "a c b"])]:
            call(value)
            told.append(due)
            self.check(bench, due)
            bench.several([])
            self.check(bench, due)
            self.refuse(bench)
        for due in told[-2::-1]:
            self.assertIs(bench.undo(), True)
            self.check(bench, due)
            self.refuse(bench)
        self.assertIs(bench.undo(), False)
        self.check(bench, told[0])

    def test_until_there_are_none(self):
        bench = Bench(START)
        bench.drop(0)
        self.check(bench, ["b | a"])
        bench.drop(0)
        self.check(bench, [])
        bench.undo()
        self.check(bench, ["b | a"])

    def test_a_deed_behind_an_undo(self):
        bench = grown()
        bench.undo()
        bench.undo()
        bench.see(TWO)
        self.check(bench, ["a b!", "b | a", "a c b", "b! | c"])
        bench.undo()
        self.check(bench, ["a b!", "b | a", "a c b"])

    def test_trials_that_are_left_at_their_end(self):
        bench = grown()
        due = ["b | a", "a c b", "b! | c", "a c b"]
        with bench.trial() as held:
            self.check(held, due)
            held.see(TWO)
            self.check(held, [*due, "b! | c"])
            with held.trial() as inner:
                self.check(inner, [*due, "b! | c"])
                inner.drop(0)
                self.check(inner, [*due[1:], "b! | c"])
                with inner.trial():
                    while inner.undo():
                        self.check(inner)
                    self.check(bench, ["a b!", "b | a"])
                    self.refuse(bench)
                self.check(bench, [*due[1:], "b! | c"])
            self.check(bench, [*due, "b! | c"])
            bench.undo()
            self.check(bench, due)
            bench.undo()
            self.check(bench, ["a b!", *due])
        self.check(bench, due)
        bench.undo()
        self.check(bench, ["a b!", *due])

    def test_trials_that_are_left_by_an_error(self):
        bench = grown()
        due = ["b | a", "a c b", "b! | c", "a c b"]
        with self.assertRaises(Ending):
            with bench.trial():
                bench.several([ONE, ONE])
                with self.assertRaises(NoRun):
                    with bench.trial():
                        bench.drop(0)
                        bench.drop(99)
                self.check(bench, [*due, "a c b", "a c b"])
                with self.assertRaises(Refused):
                    with bench.trial():
                        bench.undo()
                        bench.undo()
                        self.check(bench, ["a b!", *due])
                        bench.several([ONE, OTHER])
                self.check(bench, [*due, "a c b", "a c b"])
                bench.drop(5)
                self.check(bench, [*due, "a c b"])
                raise Ending()
        self.check(bench, due)
        self.refuse(bench)

    def test_work_within_work(self):
        due = ["b | a", "a c b", "b! | c", "a c b"]

        def inner(bench):
            bench.undo()
            bench.undo()
            self.check(bench, ["a b!", *due])
            return bench.runs

        def work(bench):
            bench.see(TWO)
            self.check(bench, [*due, "b! | c"])
            runs = bench.within(inner)
            self.check(bench, [*due, "b! | c"])
            raised(bench.within, lambda held: (held.drop(1), held.drop(9)))
            self.check(bench, [*due, "b! | c"])
            return runs
        bench = grown()
        for _ in range(2):
            self.assertEqual([str(run) for run in bench.within(work)], ["a b!", *due])
            self.check(bench, due)

    def test_what_was_handed_out_stays(self):
        bench = Bench(START)
        told = [bench.runs]
        bench.see(ONE)
        with bench.trial():
            bench.drop(0)
            told.append(bench.runs)
        bench.undo()
        self.assertEqual([[str(run) for run in runs] for runs in told], [["a b!", "b | a"], ["b | a", "a c b"]])


class Model:
    """A bench as the document tells it, with all evidences that it ever had in a list."""

    def __init__(self, evidence):
        self.told = [evidence]

    def do(self, deed, value):
        evidence = self.told[-1]
        if deed == "undo":
            if len(self.told) > 1:
                self.told.pop()
        elif deed == "see":
            self.told.append(Evidence(evidence.names, [*evidence.runs, value], evidence.things, evidence.slips))
        elif deed == "several" and value:
            self.told.append(Evidence(evidence.names, [*evidence.runs, *value], evidence.things, evidence.slips))
        elif deed == "allow":
            self.told.append(Evidence(evidence.names, evidence.runs, evidence.things, value))
        elif deed == "drop" and value < len(evidence):
            runs = [run for at, run in enumerate(evidence.runs) if at != value]
            self.told.append(Evidence(evidence.names, runs, evidence.things, evidence.slips))


class ManyDeeds(unittest.TestCase):
    def test_as_the_model(self):
        luck = random.Random(21)
        values = {"see": [ONE, TWO], "several": [[], [ONE], (TWO, ONE)], "allow": [0, 1, 2], "drop": [0, 1, 5],
                  "undo": [None]}
        for _ in range(60):
            bench, model = Bench(START), Model(START)
            self.play(luck, values, bench, model, 3)
            self.assertEqual([found[0] for found in whole_state(bench)], [str(told) for told in model.told[::-1]])

    def play(self, luck, values, bench, model, depth):
        for _ in range(luck.randrange(8)):
            deed = luck.choice([*values, "trial"])
            if deed == "trial" and depth > 0:
                told = list(model.told)
                with bench.trial():
                    self.play(luck, values, bench, model, depth - 1)
                model.told = told
            elif deed != "trial":
                value = luck.choice(values[deed])
                raised(getattr(bench, deed), *([] if value is None else [value]))
                model.do(deed, value)
            self.assertEqual(bench.evidence, model.told[-1])
            self.assertEqual((len(bench), bench.runs), (len(model.told) - 1, model.told[-1].runs))
            self.assertIs(type(bench.runs), tuple)
