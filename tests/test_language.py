"""The rules of the language that can be read off the package's files."""

import ast
import builtins
import importlib
import pathlib
import re
import unittest

from exits import ALONE_ROWS, RIGHT_ROWS, WRONG_ROWS, asks_alone, exit_of, exits_in, refused_rows
from uselots import errors

FOLDER = pathlib.Path(__file__).parent.parent / "uselots"
BUILTINS = set("""len range enumerate zip min max sum abs sorted reversed int str bool list tuple dict set isinstance
ord repr any all divmod iter next type map Exception ValueError TypeError KeyError IndexError LookupError
ZeroDivisionError NotImplemented property staticmethod classmethod super""".split())
# A run of examples may leave a builtin `_` behind.
NATIVE = set(dir(builtins)) - {"_"}
BUILTIN_METHODS = set("""append clear copy count endswith extend find get index insert isalnum isalpha isdigit islower
isspace isupper items join keys ljust lower lstrip partition pop remove replace reverse rfind rjust rpartition rsplit
rstrip setdefault split splitlines startswith strip update upper values zfill bit_length removeprefix removesuffix
rindex isascii isdecimal add discard""".split())
DUNDERS = set("""__init__ __eq__ __repr__ __str__ __len__ __enter__ __exit__ __call__ __iter__ __contains__""".split())
BARRED = {"type", "typing", "enum", "register", "mro", "elements", "open", "input", "law", "eval", "exec", "globals"}
LISTS_ALONE = {"any", "all", "min", "max", "sum", "sorted"}


def files():
    for path in sorted(FOLDER.rglob("*.py")):
        yield path, path.read_text(encoding="utf-8"), ast.parse(path.read_text(encoding="utf-8"))


def walk(kind):
    for path, _, tree in files():
        for node in ast.walk(tree):
            if isinstance(node, kind):
                yield path.name, node


def where(name, node):
    return f"{name}:{node.lineno}"


class Files(unittest.TestCase):
    def test_the_folder_holds_nothing_else(self):
        for path in FOLDER.rglob("*"):
            if "__pycache__" not in path.parts:
                self.assertTrue(path.is_dir() or re.fullmatch(r"[a-z_]+\.py", path.name), path)
        self.assertTrue((FOLDER / "__init__.py").exists())

    def test_sizes_and_signs(self):
        for path, text, tree in files():
            self.assertLessEqual(len(text.split("\n")), 399, path)
            for number, line in enumerate(text.split("\n"), start=1):
                self.assertLessEqual(len(line), 120, f"{path.name}:{number}")
                self.assertTrue(all(" " <= sign <= "~" for sign in line), f"{path.name}:{number}")
            for node in ast.walk(tree):
                if isinstance(node, ast.FunctionDef):
                    self.assertLessEqual(node.end_lineno - node.lineno + 1, 40, where(path.name, node))

    def test_everything_is_told_what_it_is(self):
        for path, _, tree in files():
            self.assertTrue(ast.get_docstring(tree), path)


class Module(unittest.TestCase):
    def test_what_stands_at_module_level(self):
        for path, _, tree in files():
            for node in tree.body[1:]:
                fine = isinstance(node, (ast.ImportFrom, ast.FunctionDef, ast.ClassDef, ast.Assign))
                self.assertTrue(fine, where(path.name, node))
                if isinstance(node, ast.Assign):
                    self.assertEqual([len(node.targets), type(node.targets[0])], [1, ast.Name], where(path.name, node))
                    calls = [inner for inner in ast.walk(node.value) if isinstance(inner, (ast.Call, ast.Set))]
                    self.assertEqual(calls, [], where(path.name, node))

    def test_imports_name_the_file_that_defines_the_name(self):
        library = {"heapq", "math", "itertools", "collections"}
        for path, _, tree in files():
            for node in ast.walk(tree):
                self.assertNotIsInstance(node, ast.Import, path)
                if isinstance(node, ast.ImportFrom) and node.module not in library:
                    self.assertTrue(node.module.startswith("uselots.") and node.level == 0, where(path.name, node))
                    module = importlib.import_module(node.module)
                    for alias in node.names:
                        self.assertIsNone(alias.asname)
                        value = getattr(module, alias.name)
                        self.assertEqual(getattr(value, "__module__", node.module), node.module, alias.name)

    def test_imports_go_round_nowhere(self):
        leads = {}
        for path, _, tree in files():
            leads[path.stem] = {node.module.split(".")[1] for node in ast.walk(tree)
                                if isinstance(node, ast.ImportFrom) and node.module.startswith("uselots.")}
        done = set()
        while len(done) < len(leads):
            ready = {name for name in leads if leads[name] <= done} - done
            self.assertTrue(ready, set(leads) - done)
            done |= ready

    def test_names_are_bound_once_and_are_no_imports_names(self):
        for path, _, tree in files():
            bound = []
            for node in tree.body:
                if isinstance(node, ast.ImportFrom):
                    bound += [alias.name for alias in node.names]
                elif isinstance(node, (ast.FunctionDef, ast.ClassDef)):
                    bound.append(node.name)
                elif isinstance(node, ast.Assign):
                    bound.append(node.targets[0].id)
            self.assertEqual(len(bound), len(set(bound)), path)
            for node in ast.walk(tree):
                if isinstance(node, ast.FunctionDef):
                    local = [one.arg for one in ast.walk(node.args) if isinstance(one, ast.arg)]
                    local += [one.id for one in ast.walk(node)
                              if isinstance(one, ast.Name) and isinstance(one.ctx, ast.Store)]
                    self.assertEqual(set(local) & set(bound), set(), where(path.name, node))
                    self.assertEqual([one for one in local if one in NATIVE], [], where(path.name, node))


class Expressions(unittest.TestCase):
    def test_statements_and_signs_that_are_not_used(self):
        wrong = (ast.AsyncFunctionDef, ast.Global, ast.Await, ast.Yield, ast.YieldFrom, ast.Div, ast.MatMult)
        self.assertEqual([where(*row) for row in walk(wrong)], [])

    def test_own_errors_alone_are_caught(self):
        for name, node in walk(ast.Try):
            self.assertEqual([node.finalbody, node.orelse], [[], []], where(name, node))
            for handler in node.handlers:
                kinds = handler.type.elts if isinstance(handler.type, ast.Tuple) else [handler.type]
                for kind in kinds:
                    self.assertTrue(issubclass(getattr(errors, kind.id), errors.UseError), where(name, node))

    def test_constants(self):
        for name, node in walk(ast.Constant):
            self.assertNotIsInstance(node.value, (float, complex), where(name, node))
            if isinstance(node.value, str):
                self.assertNotIn("%", node.value, where(name, node))

    def test_builtins(self):
        for path, _, tree in files():
            for node in ast.walk(tree):
                if isinstance(node, ast.Name) and node.id in NATIVE:
                    self.assertIn(node.id, BUILTINS, where(path.name, node))

    def test_any_and_the_like_take_lists(self):
        for name, node in walk(ast.Call):
            if isinstance(node.func, ast.Name) and node.func.id in LISTS_ALONE:
                for told in node.args:
                    self.assertNotIsInstance(told, ast.GeneratorExp, where(name, node))

    def test_is(self):
        for name, node in walk(ast.Compare):
            for sign, right in zip(node.ops, node.comparators):
                if isinstance(sign, (ast.Is, ast.IsNot)):
                    constant = isinstance(right, ast.Constant) and right.value in (None, True, False)
                    kind = isinstance(node.left, ast.Call) and getattr(node.left.func, "id", "") == "type"
                    self.assertTrue(constant or kind, where(name, node))

    def test_no_sets(self):
        self.assertEqual([where(*row) for row in walk((ast.Set, ast.SetComp))], [])

    def test_words_that_are_barred(self):
        for name, node in walk((ast.Name, ast.Attribute, ast.FunctionDef, ast.ClassDef, ast.arg)):
            word = [getattr(node, field) for field in ("id", "attr", "name", "arg") if hasattr(node, field)][0]
            if word == "type":
                self.assertIsInstance(node, ast.Name, where(name, node))
            else:
                self.assertNotIn(word, BARRED, where(name, node))
            self.assertTrue(word == "_" or re.fullmatch(r"_?[A-Za-z][A-Za-z0-9_]*|__[a-z]+__", word), where(name, node))


class Classes(unittest.TestCase):
    def setUp(self):
        self.methods, self.properties, self.attributes = {}, set(), {}
        for name, node in walk(ast.ClassDef):
            for told in node.body:
                if isinstance(told, ast.FunctionDef):
                    self.assertLessEqual(len(told.decorator_list), 1)
                    if told.decorator_list:
                        self.assertEqual(told.decorator_list[0].id, "property", where(name, told))
                        self.properties.add(told.name)
                    else:
                        self.methods.setdefault(told.name, set()).add(node.name)
        for name, node in walk(ast.Attribute):
            if isinstance(node.ctx, ast.Store):
                self.attributes.setdefault(node.attr, where(name, node))

    def test_functions_have_no_decorators(self):
        for path, _, tree in files():
            for node in tree.body:
                if isinstance(node, ast.FunctionDef):
                    self.assertEqual(node.decorator_list, [], where(path.name, node))

    def test_double_underscores(self):
        self.assertEqual([name for name in self.methods if name.startswith("__") and name not in DUNDERS], [])

    def test_methods_attributes_and_properties_have_names_of_their_own(self):
        own = {name for name in self.methods if not name.startswith("__")}
        self.assertEqual(own & set(self.attributes), set())
        self.assertEqual(self.properties & set(self.attributes), set())
        self.assertEqual(own & self.properties, set())
        self.assertEqual((self.properties | set(self.attributes)) & BUILTIN_METHODS, set())

    def test_methods_of_builtin_values(self):
        own = set(self.methods) | set(self.attributes)
        for name, node in walk(ast.Call):
            if isinstance(node.func, ast.Attribute):
                self.assertIn(node.func.attr, BUILTIN_METHODS | own, where(name, node))

    def test_attributes_are_assigned_through_a_local_name(self):
        for name, node in walk(ast.Attribute):
            if isinstance(node.ctx, ast.Store):
                self.assertIsInstance(node.value, ast.Name, where(name, node))

    def test_attributes_that_are_read_are_set_somewhere(self):
        known = set(self.methods) | set(self.attributes) | self.properties | BUILTIN_METHODS
        for name, node in walk(ast.Attribute):
            self.assertIn(node.attr, known, where(name, node))


class Exits(unittest.TestCase):
    def test_exits_hold_only_what_they_may(self):
        trees = [tree for _, _, tree in files()]
        self.assertTrue([tree for tree in trees if exits_in(tree)])
        for path, _, tree in files():
            self.assertEqual(refused_rows(tree, asks_alone(trees)), [], path.name)

    def test_objects_of_the_package_are_not_asked_alone(self):
        self.assertFalse(asks_alone([tree for _, _, tree in files()]))
        for name in ("__eq__", "__len__"):
            self.assertFalse(asks_alone([ast.parse("x = 1"), ast.parse(f"class Box:\n    def {name}(self): pass")]), name)
        self.assertTrue(asks_alone([ast.parse("class Box:\n    def __init__(self): pass\n\ndef __len__(): pass")]))

    def test_rows_that_are_found(self):
        for row in WRONG_ROWS + ALONE_ROWS:
            self.assertEqual(refused_rows(exit_of(row), False), [4], row)
        for row in WRONG_ROWS:
            self.assertEqual(refused_rows(exit_of(row), True), [4], row)

    def test_rows_that_may_stand(self):
        for row in RIGHT_ROWS:
            self.assertEqual(refused_rows(exit_of(row), False), [], row)
        for row in ALONE_ROWS:
            self.assertEqual(refused_rows(exit_of(row), True), [], row)

    def test_the_rows_beneath_an_if(self):
        rows = "if kind is None:\n            pass\n        elif self.kept is None:\n            {}\n        else:\n            {}"
        self.assertEqual(refused_rows(exit_of(rows.format("host.latest = self.latest", "pass")), False), [])
        self.assertEqual(refused_rows(exit_of(rows.format("host.keep()", "del host.latest")), False), [7, 9])


if __name__ == "__main__":
    unittest.main()
