"""The section "The interface": what stands where, under which names and with which parameters."""

import ast
import importlib
import inspect
import os
import unittest

import poisonruns

FOLDER = os.path.dirname(os.path.abspath(poisonruns.__file__))

# For each module its classes: the parameters of the constructor, the attributes of an object, and the methods.
CLASSES = {
    "errors": {
        "InvalidRun": (["at"], []), "InvalidTable": (["word"], []), "InvalidEvidence": (["word"], []),
        "InvalidText": (["at"], []), "InvalidRows": (["at"], []), "Refused": (["at"], []),
        "NoRun": (["at"], []), "NoTest": (["name"], []),
    },
    "runs": {
        "Run": (["rows"], [("read", ["text"]), ("__add__", None), ("__len__", []), ("__eq__", None), ("__str__", [])]),
    },
    "tables": {
        "Table": (["signs"], [
            ("does", ["name", "thing"]), ("look", ["name", "thing"]), ("play", ["rows"]), ("misses", ["run"]),
            ("poisons", ["one", "other"]), ("heals", ["one", "other"]), ("read", ["text"]), ("__contains__", None),
            ("__len__", []), ("__eq__", None), ("__str__", []),
        ]),
    },
}
PLAIN = ["PoisonError", "Impossible", "InvalidCommand", "Mismatch"]


def tree_of(name):
    with open(os.path.join(FOLDER, name + ".py"), encoding="utf-8") as file:
        return ast.parse(file.read())


class Interface(unittest.TestCase):
    def test_the_package_is_empty_but_for_a_docstring(self):
        body = tree_of("__init__").body
        self.assertEqual(len(body), 1)
        self.assertIsNotNone(ast.get_docstring(tree_of("__init__")))

    def test_classes_are_defined_in_their_files(self):
        for module, classes in CLASSES.items():
            defined = [part.name for part in tree_of(module).body if isinstance(part, ast.ClassDef)]
            for name in [*classes, *(PLAIN if module == "errors" else [])]:
                self.assertIn(name, defined)
                kind = getattr(importlib.import_module("poisonruns." + module), name)
                self.assertEqual(kind.__module__, "poisonruns." + module)

    def test_parameters_and_methods(self):
        for module, classes in CLASSES.items():
            for name, (parameters, methods) in classes.items():
                kind = getattr(importlib.import_module("poisonruns." + module), name)
                self.assertEqual(list(inspect.signature(kind).parameters), parameters)
                for method, words in methods:
                    with self.subTest(name, method=method):
                        self.assertIn(method, vars(kind))
                        if words is not None:
                            found = list(inspect.signature(getattr(kind, method)).parameters)
                            self.assertEqual([word for word in found if word != "self"], words)

    def test_read_is_a_class_method(self):
        for module, name in [("runs", "Run"), ("tables", "Table")]:
            kind = getattr(importlib.import_module("poisonruns." + module), name)
            self.assertIsInstance(vars(kind)["read"], classmethod)

    def test_attributes_are_set_when_an_object_is_created(self):
        run = importlib.import_module("poisonruns.runs").Run([[("a", True)]])
        table = importlib.import_module("poisonruns.tables").Table({"a": [("sets", "on")]})
        self.assertLessEqual({"rows", "names", "orders"}, set(vars(run)))
        self.assertLessEqual({"names", "things"}, set(vars(table)))
