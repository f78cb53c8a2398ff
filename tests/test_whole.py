"""Points 1 and 2 over the whole program: what holds of each function, method and class of the package."""

import importlib
import os
import random
import unittest

import poisonruns
from poisonruns import asking, blame, cases, deciding, errors, orders, papers, space
from poisonruns.bench import Bench
from poisonruns.desk import Desk
from poisonruns.evidence import Evidence
from poisonruns.runs import Run
from poisonruns.tables import Table
from tests.samples import raised

FOLDER = os.path.dirname(os.path.abspath(poisonruns.__file__))
TEXT = "tests a b c\nthings 1 slips 0\na b!\nb | a\na c b"


def run():
    return Run([[("a", False), ("b", True)], [("c", False)]])


def table():
    return Table({"a": [("sets", "never")], "b": [("leaves", "on")], "c": [("clears", "off")]})


def evidence():
    return Evidence.read(TEXT)


def rows():
    return [["c", "a", "b"], ["c"]]


def bench():
    told = Bench(evidence())
    told.see(run())
    return told


def desk():
    told = Desk()
    told.say("tests a b")
    told.say("seen a b!")
    return told


def calls():
    """For each function, method and class what is called, and its arguments by their names; all made anew."""
    seen = evidence()
    tree = papers.sure(seen, [["a", "b"]], 0, 1, "fails")
    torn = Evidence.read("tests a\nthings 1 slips 0\na!\na")
    found = [
        (Run, {"rows": [[("a", False), ("b", True)], [("c", False)]]}), (Run.read, {"text": "a b! | c"}),
        (Table, {"signs": {"a": [("sets", "never")], "b": [("leaves", "on")]}}),
        (Table.read, {"text": "b leaves on\na sets never"}), (table().does, {"name": "a", "thing": 0}),
        (table().look, {"name": "b", "thing": 0}), (table().play, {"rows": rows()}), (table().misses, {"run": run()}),
        (table().poisons, {"one": "a", "other": "b"}), (table().heals, {"one": "a", "other": "c"}),
        (Evidence, {"names": ["b", "a", "c"], "runs": [run(), run()], "things": 1, "slips": 2}),
        (Evidence.read, {"text": TEXT}), (seen.plus, {"run": run()}), (seen.without, {"at": 1}),
        (seen.allowing, {"slips": 2}), (seen.explained, {"table": table()}),
        (deciding.outlook, {"evidence": seen, "rows": rows()}), (deciding.surely, {"evidence": seen, "rows": rows()}),
        (deciding.parting, {"evidence": seen, "rows": rows()}), (papers.impossible, {"evidence": torn}),
        (papers.impossible_holds, {"evidence": torn, "value": papers.impossible(torn)}),
        (papers.impossible_holds, {"evidence": torn, "value": ["not", [tree], seen]}),
        (papers.sure, {"evidence": seen, "rows": [["a", "b"]], "row": 0, "place": 1, "word": "fails"}),
        (papers.sure_holds,
         {"evidence": seen, "rows": [["a", "b"]], "row": 0, "place": 1, "word": "fails", "value": tree}),
        (orders.clearings, {"evidence": seen, "order": ["a", "b"]}), (orders.apart, {"evidence": seen, "workers": 2}),
        (orders.near, {"names": ["b", "a", "c"]}), (blame.least_slips, {"evidence": torn}),
        (blame.conflict, {"evidence": torn}), (blame.chance, {"evidence": torn.plus(torn[0])}),
        (asking.best_row, {"evidence": seen, "longest": 2}),
    ]
    alone = [deciding.many, deciding.table_for, deciding.poisons, deciding.heals, deciding.may_poison, deciding.free,
             papers.impossible, orders.safe_order, orders.safe_orders, blame.least_slips, blame.conflict, blame.chance]
    return found + [(call, {"evidence": seen}) for call in alone]


def wrong_calls():
    """Calls that raise errors of the package."""
    seen, torn = evidence(), Evidence.read("tests a\nthings 1 slips 0\na!\na")
    return [
        (Run, {"rows": [[("a", False)], []]}), (Run.read, {"text": "a | "}), (Table, {"signs": {"a": [], "b": []}}),
        (Table.read, {"text": "a"}), (table().does, {"name": "d", "thing": 0}),
        (table().play, {"rows": [["a"], ["d"]]}),
        (Evidence, {"names": ["a"], "runs": [run()]}), (Evidence.read, {"text": TEXT + "\n"}),
        (seen.plus, {"run": [run()]}), (seen.without, {"at": 3}), (seen.allowing, {"slips": [1]}),
        (deciding.outlook, {"evidence": seen, "rows": [["a"], ["d"]]}),
        (asking.best_row, {"evidence": torn, "longest": 1}),
        (orders.clearings, {"evidence": seen, "order": ["a", "none"]}),
        (orders.apart, {"evidence": torn, "workers": 1}),
        (bench().see, {"run": [run()]}), (bench().several, {"runs": [run(), [run()]]}),
        (bench().drop, {"at": 4}),
        (bench().allow, {"slips": (1,)}), (desk().say, {"command": ["many"]}), (Desk().say, {"command": "many"}),
    ]


def deeds():
    """Deeds of benches and desks: what is called, its arguments by their names, and whose state it changes."""
    found = []
    for name, more in [("see", {"run": run()}), ("several", {"runs": [run(), run()]}), ("allow", {"slips": 2}),
                       ("drop", {"at": 1}), ("undo", {}), ("within", {"work": lambda held: held.see(run())})]:
        told = bench()
        found.append((getattr(told, name), more, told))
    for command in ["tests c", "seen b", "allow 2", "many", "outlook a b | b", "poisons", "heals", "order", "undo"]:
        told = desk()
        found.append((told.say, {"command": command}, told))
    return found


def told(value):
    """A value by all that can be seen of it, so that it can be compared later."""
    if isinstance(value, (list, tuple)):
        return type(value), [told(part) for part in value]
    if isinstance(value, dict):
        return dict, [(told(key), told(part)) for key, part in value.items()]
    if isinstance(value, Bench):
        return Bench, str(value.evidence), len(value)
    if isinstance(value, Desk):
        return Desk, told(value.bench)
    if isinstance(value, (Run, Table, Evidence)):
        return type(value), str(value), told([value.names, getattr(value, "runs", getattr(value, "orders", None))])
    return type(value), value if not callable(value) else None


def lists_as_tuples(value):
    """A value with tuples for lists, also within one another."""
    if isinstance(value, (list, tuple)):
        return tuple(lists_as_tuples(part) for part in value)
    if isinstance(value, dict):
        return {key: lists_as_tuples(part) for key, part in value.items()}
    return value


class Arguments(unittest.TestCase):
    def test_by_their_names_in_any_order(self):
        for call, more in calls():
            with self.subTest(call=call):
                due = told(call(*more.values()))
                self.assertEqual(told(call(**more)), due)
                self.assertEqual(told(call(**dict(list(more.items())[::-1]))), due)

    def test_deeds_by_their_names(self):
        for (call, more, one), (by_name, same, other) in zip(deeds(), deeds()):
            self.assertEqual(told(call(*more.values())), told(by_name(**same)))
            self.assertEqual(told(one), told(other))

    def test_lists_or_tuples(self):
        for call, more in calls():
            with self.subTest(call=call):
                # A tree has tuples only: a list in it makes it none, and stays a list here.
                same = {name: value if name == "value" else lists_as_tuples(value) for name, value in more.items()}
                self.assertEqual(told(call(**same)), told(call(**more)))

    def test_nothing_is_changed(self):
        for call, more in [*calls(), *wrong_calls(), *[deed[:2] for deed in deeds()]]:
            with self.subTest(call=call):
                before, owner = told(more), told(getattr(call, "__self__", None))
                error = raised(call, **more)
                self.assertEqual(told(more), before)
                if error is not None or not isinstance(getattr(call, "__self__", None), (Bench, Desk)):
                    self.assertEqual(told(getattr(call, "__self__", None)), owner)

    def test_the_wrong_calls_are_wrong(self):
        for call, more in wrong_calls():
            self.assertIsNotNone(raised(call, **more), (call, more))
        for call, more in [*calls(), *[deed[:2] for deed in deeds()]]:
            self.assertIsNone(raised(call, **more), (call, more))

    def test_later_changes_have_no_effect(self):
        for call, more in calls():
            found = call(**more)
            before = told(found)
            for value in more.values():
                if isinstance(value, (list, dict)):
                    for part in value if isinstance(value, list) else value.values():
                        if isinstance(part, list):
                            part.clear()
                    value.clear()
            self.assertEqual(told(found), before, call)


class Results(unittest.TestCase):
    def test_equal_whatever_was_asked_in_between(self):
        luck = random.Random(2)
        made = calls()
        due = [told(call(**more)) for call, more in made]
        for _ in range(3):
            for at in luck.sample(range(len(made)), len(made)):
                call, more = made[at]
                self.assertEqual(told(call(**more)), due[at])
        self.assertEqual([told(call(**more)) for call, more in calls()], due)

    def test_of_a_bench_and_a_desk_while_they_do_not_change(self):
        one, other = bench(), desk()
        commands = ["many", "outlook a b | b", "poisons", "heals", "order"]
        due = [told(one), told(one.runs), *[other.say(command) for command in commands]]
        for call, more in calls():
            call(**more)
        one.within(lambda held: held.several([run(), run()]))
        other.bench.within(lambda held: other.say("undo") + other.say("seen a"))
        self.assertEqual([told(one), told(one.runs), *[other.say(command) for command in commands]], due)

    def test_sequences_are_tuples(self):
        for call, more in calls():
            self.check_tuples(call(**more))
        for value in [run().rows, run().names, run().orders, table().names, evidence().names, evidence().runs,
                      bench().runs]:
            self.check_tuples(value)

    def check_tuples(self, value):
        self.assertNotIsInstance(value, (list, set, dict))
        for part in value if isinstance(value, tuple) else ():
            self.check_tuples(part)

    def test_no_result_but_none(self):
        for call, more, _ in deeds():
            if call.__name__ in ("see", "several", "allow", "drop"):
                self.assertIsNone(call(**more))


def objects():
    """An object of each class of the package."""
    one = bench()
    found = [run(), table(), evidence(), Bench(evidence()), one, one.trial(), Desk(), desk(),
             space.Space(("a",), 1), space.View(evidence()), papers.Paper(evidence(), None)]
    for name, kind in vars(errors).items():
        if isinstance(kind, type):
            found.append(kind("a") if "__init__" in vars(kind) else kind())
    return found


class Objects(unittest.TestCase):
    def test_of_each_class(self):
        modules = [importlib.import_module("poisonruns." + name[:-3]) for name in sorted(os.listdir(FOLDER))
                   if name.endswith(".py") and name != "__init__.py"]
        classes = {kind for module in modules for kind in vars(module).values()
                   if isinstance(kind, type) and kind.__module__ == module.__name__}
        self.assertIn(cases, modules)
        self.assertEqual({type(value) for value in objects()}, classes)

    def test_none_is_iterable(self):
        for value in objects():
            with self.subTest(value=type(value)):
                self.assertRaises(TypeError, iter, value)
                self.assertRaises(TypeError, list, value)
                self.assertRaises(TypeError, zip, value)
                with self.assertRaises(TypeError):
                    for _ in value:
                        pass
                with self.assertRaises(TypeError):
                    [*value]
                with self.assertRaises(TypeError):
                    one, other, third = value

    def test_equal_to_nothing_else(self):
        for kind in [Run, Table, Evidence]:
            for value in objects():
                if type(value) is kind:
                    for other in [*objects(), str(value), None, 0, (), value.names]:
                        self.assertIs(value == other, type(other) is kind)
                        self.assertIs(other != value, type(other) is not kind)
