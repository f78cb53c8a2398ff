"""The section "The interface": what stands where, under which names and with which parameters."""

import ast
import importlib
import inspect
import os
import unittest

import poisonruns

FOLDER = os.path.dirname(os.path.abspath(poisonruns.__file__))

# For each module its classes: the parameters of the constructor, the attributes of an object, and the methods.
CLASSES = {
    "errors": {
        "InvalidRun": (["at"], []), "InvalidTable": (["word"], []), "InvalidEvidence": (["word"], []),
        "InvalidText": (["at"], []), "InvalidRows": (["at"], []), "Refused": (["at"], []),
        "NoRun": (["at"], []), "NoTest": (["name"], []),
    },
    "runs": {
        "Run": (["rows"], [("read", ["text"]), ("__add__", None), ("__len__", []), ("__eq__", None), ("__str__", [])]),
    },
    "tables": {
        "Table": (["signs"], [
            ("does", ["name", "thing"]), ("look", ["name", "thing"]), ("play", ["rows"]), ("misses", ["run"]),
            ("poisons", ["one", "other"]), ("heals", ["one", "other"]), ("read", ["text"]), ("__contains__", None),
            ("__len__", []), ("__eq__", None), ("__str__", []),
        ]),
    },
    "evidence": {
        "Evidence": (["names", "runs", "things", "slips"], [
            ("plus", ["run"]), ("without", ["at"]), ("allowing", ["slips"]), ("explained", ["table"]),
            ("read", ["text"]), ("__add__", None), ("__len__", []), ("__getitem__", None), ("__eq__", None),
            ("__str__", []),
        ]),
    },
    "bench": {
        "Bench": (["evidence"], [
            ("evidence", None), ("see", ["run"]), ("several", ["runs"]), ("allow", ["slips"]),
            ("drop", ["at"]), ("undo", []), ("trial", []), ("within", ["work"]), ("__len__", []),
        ]),
    },
    "desk": {"Desk": ([], [("say", ["command"])])},
}
FUNCTIONS = {
    "deciding": {
        "many": ["evidence"], "table_for": ["evidence"], "outlook": ["evidence", "rows"],
        "surely": ["evidence", "rows"], "parting": ["evidence", "rows"], "poisons": ["evidence"],
        "heals": ["evidence"], "may_poison": ["evidence"], "free": ["evidence"],
    },
    "papers": {
        "impossible": ["evidence"], "impossible_holds": ["evidence", "value"],
        "sure": ["evidence", "rows", "row", "place", "word"],
        "sure_holds": ["evidence", "rows", "row", "place", "word", "value"],
    },
    "orders": {
        "safe_order": ["evidence"], "safe_orders": ["evidence"], "clearings": ["evidence", "order"],
        "apart": ["evidence", "workers"], "near": ["names"],
    },
    "blame": {"least_slips": ["evidence"], "conflict": ["evidence"], "chance": ["evidence"]},
    "asking": {"best_row": ["evidence", "longest"]},
}
PLAIN = ["PoisonError", "Impossible", "InvalidCommand", "Mismatch"]


def tree_of(name):
    with open(os.path.join(FOLDER, name + ".py"), encoding="utf-8") as file:
        return ast.parse(file.read())


class Interface(unittest.TestCase):
    def test_the_package_is_empty_but_for_a_docstring(self):
        body = tree_of("__init__").body
        self.assertEqual(len(body), 1)
        self.assertIsNotNone(ast.get_docstring(tree_of("__init__")))

    def test_classes_are_defined_in_their_files(self):
        for module, classes in CLASSES.items():
            defined = [part.name for part in tree_of(module).body if isinstance(part, ast.ClassDef)]
            for name in [*classes, *(PLAIN if module == "errors" else [])]:
                self.assertIn(name, defined)
                kind = getattr(importlib.import_module("poisonruns." + module), name)
                self.assertEqual(kind.__module__, "poisonruns." + module)

    def test_parameters_and_methods(self):
        for module, classes in CLASSES.items():
            for name, (parameters, methods) in classes.items():
                kind = getattr(importlib.import_module("poisonruns." + module), name)
                self.assertEqual(list(inspect.signature(kind).parameters), parameters)
                for method, words in methods:
                    with self.subTest(name, method=method):
                        self.assertIn(method, vars(kind))
                        if words is not None:
                            found = list(inspect.signature(getattr(kind, method)).parameters)
                            self.assertEqual([word for word in found if word != "self"], words)

    def test_functions_are_defined_in_their_files(self):
        for module, functions in FUNCTIONS.items():
            defined = [part.name for part in tree_of(module).body if isinstance(part, ast.FunctionDef)]
            for name, parameters in functions.items():
                with self.subTest(module, name=name):
                    self.assertIn(name, defined)
                    function = getattr(importlib.import_module("poisonruns." + module), name)
                    self.assertEqual(function.__module__, "poisonruns." + module)
                    self.assertEqual(list(inspect.signature(function).parameters), parameters)

    def test_defaults_of_an_evidence(self):
        kind = importlib.import_module("poisonruns.evidence").Evidence
        told = [part.default for part in inspect.signature(kind).parameters.values()]
        self.assertEqual(told, [inspect.Parameter.empty, (), 1, 0])

    def test_read_is_a_class_method(self):
        for module, name in [("runs", "Run"), ("tables", "Table"), ("evidence", "Evidence")]:
            kind = getattr(importlib.import_module("poisonruns." + module), name)
            self.assertIsInstance(vars(kind)["read"], classmethod)

    def test_properties(self):
        kind = importlib.import_module("poisonruns.bench").Bench
        self.assertIsInstance(vars(kind)["evidence"], property)
        # The language lets no class have a property of a name that another one, as here the evidence, assigns.
        evidence = importlib.import_module("poisonruns.evidence").Evidence(["a"])
        self.assertEqual(kind(evidence).evidence, evidence)
        self.assertEqual(kind(evidence).runs, ())

    def test_attributes_are_set_when_an_object_is_created(self):
        run = importlib.import_module("poisonruns.runs").Run([[("a", True)]])
        table = importlib.import_module("poisonruns.tables").Table({"a": [("sets", "on")]})
        self.assertLessEqual({"rows", "names", "orders"}, set(vars(run)))
        evidence = importlib.import_module("poisonruns.evidence").Evidence(["a"])
        self.assertLessEqual({"names", "things"}, set(vars(table)))
        self.assertLessEqual({"names", "runs", "things", "slips"}, set(vars(evidence)))
        self.assertIn("bench", vars(importlib.import_module("poisonruns.desk").Desk()))
