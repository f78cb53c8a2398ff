"""The plainest of the rules for the code: L1 to L8, L10, L14, L16 to L18, L23, L25 and L27."""

import ast
import builtins
import os
import re
import unittest

import poisonruns
from poisonruns.space import Space

FOLDER = os.path.dirname(os.path.abspath(poisonruns.__file__))
BUILTINS = """len range enumerate zip min max sum abs sorted reversed int str bool list tuple dict set isinstance ord repr
any all divmod pow getattr hasattr setattr iter next map Exception ValueError TypeError KeyError IndexError LookupError
ZeroDivisionError ArithmeticError OverflowError RuntimeError NotImplementedError AttributeError StopIteration
NotImplemented classmethod staticmethod property super""".split()
# Where examples were tried, `_` is among them.
TAKEN = set(vars(builtins)) - {"_"}
METHODS = """append clear copy count endswith extend find get index insert isalnum isalpha isdigit islower isspace isupper
items join keys ljust lower lstrip partition pop remove replace reverse rfind rjust rpartition rsplit rstrip setdefault
split splitlines startswith strip update upper values zfill bit_length title capitalize swapcase casefold center
expandtabs removeprefix removesuffix rindex isascii isdecimal isnumeric istitle isidentifier isprintable add
discard""".split()
NOT_USED = """register mro elements open input law version_info with_traceback add_note type typing enum Enum dataclass
namedtuple NamedTuple TypedDict Generic Protocol ABC compile dir eval exec exit globals help id locals os quit vars
frozenset bytes chr print hash callable filter round format""".split()
FORBIDDEN = (ast.Global, ast.AsyncFunctionDef, ast.Await, ast.Div, ast.Import, ast.AnnAssign, ast.Set, ast.GeneratorExp,
             ast.Yield, ast.YieldFrom, ast.Match, ast.NamedExpr, ast.Nonlocal)


def sources():
    for name in sorted(os.listdir(FOLDER)):
        if name != "__pycache__":
            with open(os.path.join(FOLDER, name), encoding="utf-8", newline="") as file:
                yield name, file.read()


def imports(tree):
    return [part for part in ast.walk(tree) if isinstance(part, ast.ImportFrom)]


class Files(unittest.TestCase):
    def test_names_and_characters(self):
        for name, text in sources():
            self.assertRegex(name, r"\A[a-z_][a-z0-9_]*\.py\Z")
            self.assertIsNone(re.search(r"[^ -~\n]", text), name)

    def test_sizes(self):
        for name, text in sources():
            lines = text.split("\n")
            self.assertLessEqual(len(lines), 399, name)
            self.assertLessEqual(max(len(line) for line in lines), 120, name)
            for part in ast.walk(ast.parse(text)):
                if isinstance(part, ast.FunctionDef):
                    self.assertLessEqual(part.end_lineno - part.lineno + 1, 40, (name, part.name))


class Imports(unittest.TestCase):
    LIBRARY = ("heapq", "math", "itertools", "collections")

    def test_only_from_the_defining_file(self):
        trees = {name: ast.parse(text) for name, text in sources()}
        for name, tree in trees.items():
            for part in imports(tree):
                self.assertIn(part, tree.body)
                self.assertEqual(part.level, 0, name)
                if part.module not in self.LIBRARY:
                    package, file = part.module.split(".")
                    self.assertEqual(package, "poisonruns")
                    body = trees[file + ".py"].body
                    own = [there.name for there in body if isinstance(there, (ast.FunctionDef, ast.ClassDef))]
                    own += [there.targets[0].id for there in body if isinstance(there, ast.Assign)]
                    self.assertLessEqual({alias.name for alias in part.names}, set(own), name)

    def test_no_circles(self):
        rest = {name[:-3]: {part.module.split(".")[-1] for part in imports(ast.parse(text))}
                for name, text in sources()}
        while rest:
            free = [name for name, needs in rest.items() if not needs & set(rest)]
            self.assertTrue(free, rest)
            rest = {name: rest[name] for name in rest if name not in free}

    def test_every_import_is_used(self):
        for name, text in sources():
            for part in imports(ast.parse(text)):
                for alias in part.names:
                    self.assertGreater(len(re.findall(rf"\b{alias.name}\b", text)), 1, (name, alias.name))


class Words(unittest.TestCase):
    def test_module_level(self):
        for name, text in sources():
            for at, part in enumerate(ast.parse(text).body):
                docstring = at == 0 and isinstance(part, ast.Expr) and isinstance(part.value, ast.Constant)
                plain = (ast.ImportFrom, ast.FunctionDef, ast.ClassDef, ast.Assign)
                self.assertTrue(docstring or isinstance(part, plain), (name, part.lineno))

    def test_statements(self):
        for name, text in sources():
            for part in ast.walk(ast.parse(text)):
                self.assertNotIsInstance(part, FORBIDDEN, (name, getattr(part, "lineno", None)))
                self.assertFalse(isinstance(part, ast.Constant) and isinstance(part.value, (float, complex)), name)

    def test_builtins(self):
        for name, text in sources():
            for part in ast.walk(ast.parse(text)):
                if isinstance(part, ast.Name) and part.id in TAKEN:
                    self.assertIn(part.id, BUILTINS, (name, part.lineno))
                    self.assertIsInstance(part.ctx, ast.Load, (name, part.lineno))
                if isinstance(part, (ast.arg, ast.FunctionDef, ast.ClassDef)):
                    told = part.arg if isinstance(part, ast.arg) else part.name
                    self.assertNotIn(told, TAKEN, name)

    def test_methods(self):
        own = {part.name for _, text in sources() for part in ast.walk(ast.parse(text))
               if isinstance(part, ast.FunctionDef)}
        for name, text in sources():
            for part in ast.walk(ast.parse(text)):
                if isinstance(part, ast.Call) and isinstance(part.func, ast.Attribute):
                    self.assertIn(part.func.attr, own | set(METHODS), (name, part.lineno))

    def test_no_method_is_read_off_a_class(self):
        classes = {part.name for _, text in sources() for part in ast.walk(ast.parse(text))
                   if isinstance(part, ast.ClassDef)}
        for name, text in sources():
            for part in ast.walk(ast.parse(text)):
                if isinstance(part, ast.Attribute) and isinstance(part.value, ast.Name):
                    self.assertNotIn(part.value.id, classes, (name, part.lineno))

    def test_no_property_has_a_name_that_is_assigned(self):
        # Properties go by their names: an attribute of another class with such a name would need a setter.
        trees = [(name, ast.parse(text)) for name, text in sources()]
        properties = [part.name for _, tree in trees for part in ast.walk(tree) if isinstance(part, ast.FunctionDef)
                      and "property" in [getattr(there, "id", None) for there in part.decorator_list]]
        self.assertEqual(properties, ["evidence"])
        methods = [part.name for _, tree in trees for part in ast.walk(tree) if isinstance(part, ast.FunctionDef)]
        for told in properties:
            self.assertEqual(methods.count(told), 1)
        for name, tree in trees:
            for part in ast.walk(tree):
                if isinstance(part, ast.Attribute) and not isinstance(part.ctx, ast.Load):
                    self.assertNotIn(part.attr, properties, (name, part.lineno))

    def test_no_method_has_a_name_that_is_assigned(self):
        trees = [(name, ast.parse(text)) for name, text in sources()]
        methods = [part.name for _, tree in trees for there in tree.body if isinstance(there, ast.ClassDef)
                   for part in there.body if isinstance(part, ast.FunctionDef)]
        for name, tree in trees:
            for part in ast.walk(tree):
                if isinstance(part, ast.Attribute) and not isinstance(part.ctx, ast.Load):
                    self.assertNotIn(part.attr, methods, (name, part.lineno))

    def test_what_is_iterated_at_once(self):
        for name, text in sources():
            tree = ast.parse(text)
            fine = [there.iter for there in ast.walk(tree) if isinstance(there, (ast.For, ast.comprehension))]
            fine += [there.args[0] for there in ast.walk(tree) if isinstance(there, ast.Call) and there.args
                     and isinstance(there.func, ast.Name) and there.func.id in TAKEN]
            for part in ast.walk(tree):
                if isinstance(part, ast.Call):
                    called = part.func.attr if isinstance(part.func, ast.Attribute) else getattr(part.func, "id", None)
                    if called in ("range", "zip", "enumerate", "reversed", "items", "keys", "values"):
                        self.assertIn(part, fine, (name, part.lineno))

    def test_what_stands_behind_a_block(self):
        found = 0
        for name, text in sources():
            for part in ast.walk(ast.parse(text)):
                if isinstance(part, ast.FunctionDef) and part.name == "__exit__":
                    found += 1
                    for row in part.body:
                        self.assertIsInstance(row, ast.Assign, (name, row.lineno))
                        self.assertIsInstance(row.value, ast.Attribute, (name, row.lineno))
        self.assertEqual(found, 1)

    def test_words_that_are_not_used(self):
        for name, text in sources():
            for part in ast.walk(ast.parse(text)):
                for field in ("id", "attr", "arg", "name"):
                    self.assertNotIn(getattr(part, field, None), NOT_USED, (name, getattr(part, "lineno", None)))
                if isinstance(part, ast.Constant) and isinstance(part.value, str):
                    self.assertNotIn("%", part.value, name)

    def test_what_has_an_index_is_not_iterable(self):
        for name, text in sources():
            for part in ast.walk(ast.parse(text)):
                if isinstance(part, ast.ClassDef):
                    own = {method.name: method for method in part.body if isinstance(method, ast.FunctionDef)}
                    if "__getitem__" in own:
                        self.assertEqual([type(row) for row in own["__iter__"].body], [ast.Raise], name)

    def test_what_is_not_written_beside_an_index(self):
        for name, text in sources():
            for word in ["(" + "type)", "Meta", "metaclass="]:
                self.assertNotIn(word, text, name)

    def test_no_number_of_more_than_900_digits(self):
        for names, things in [("abcd", 1), ("ab", 2), ("abcdef", 1), ("abc", 2)]:
            space = Space(list(names), things)
            for tables in [space.every, *space.failing(list(names) * 2)]:
                self.assertTrue(all(0 <= bits < 10 ** 900 for bits in tables))
