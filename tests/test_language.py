"""The package against the rules of its Python subset that can be seen from the code alone."""

import ast
import builtins
import unittest
from pathlib import Path

PACKAGE = Path(__file__).resolve().parent.parent / "huefall"
SOURCES = {path.stem: path.read_text(encoding="utf-8") for path in sorted(PACKAGE.glob("*.py"))}
TREES = {name: ast.parse(text) for name, text in SOURCES.items()}

BUILTINS = """len range enumerate zip min max sum abs sorted reversed int str bool list tuple dict set isinstance ord
    repr any all divmod Exception ValueError TypeError KeyError IndexError LookupError ZeroDivisionError
    ArithmeticError OverflowError RuntimeError NotImplementedError NotImplemented""".split()
METHODS = """append clear copy count endswith extend find get index insert isalnum isalpha isdigit islower isspace
    isupper items join keys ljust lower lstrip partition pop remove replace reverse rfind rjust rpartition rsplit
    rstrip setdefault split startswith strip update upper values zfill add discard""".split()
# A House has __eq__, so these take lists, never generator expressions.
TAKE_LISTS = ["any", "all", "min", "max", "sum", "sorted"]
ON_THE_SPOT = ["zip", "enumerate", "reversed", "range"]
MAY_ITERATE = ["list", "tuple", "dict", "sorted", "sum", "any", "all", "enumerate", "zip", "min", "max", "join"]
UNUSED_STATEMENTS = (ast.Global, ast.AsyncFunctionDef, ast.AsyncFor, ast.AsyncWith, ast.Import, ast.Delete)
BARRED_WORDS = ["mro", "elements", "open", "input", "law", "enum", "dataclass", "typing", "_wall"]


def nodes(tree, *kinds):
    return [node for node in ast.walk(tree) if isinstance(node, kinds)]


def name_of_call(node):
    function = node.func
    return function.id if isinstance(function, ast.Name) else function.attr


def defined_names(tree):
    """The names that the top of a file defines, imports left out."""
    names = [node.name for node in tree.body if isinstance(node, (ast.FunctionDef, ast.ClassDef))]
    return names + [node.targets[0].id for node in tree.body if isinstance(node, ast.Assign)]


def bound_names(tree):
    """Every name that a file binds anywhere."""
    bound = [node.id for node in nodes(tree, ast.Name) if isinstance(node.ctx, ast.Store)]
    bound += [node.arg for node in nodes(tree, ast.arg)]
    bound += [node.name for node in nodes(tree, ast.FunctionDef, ast.ClassDef)]
    bound += [node.name for node in nodes(tree, ast.ExceptHandler) if node.name]
    return bound + [alias.name for node in nodes(tree, ast.ImportFrom) for alias in node.names]


def generators():
    """The names of the functions of the package that yield."""
    functions = [node for tree in TREES.values() for node in nodes(tree, ast.FunctionDef)]
    return [node.name for node in functions if nodes(node, ast.Yield, ast.YieldFrom)]


def is_plain_value(node, functions):
    """True for a literal, and for a dict of literals and functions that stand above."""
    if isinstance(node, ast.Dict):
        return all(is_plain_value(part, functions) for part in [*node.keys, *node.values])
    if isinstance(node, ast.Name):
        return node.id in functions
    try:
        ast.literal_eval(node)
    except ValueError:
        return False
    return True


class FilesTest(unittest.TestCase):
    def test_only_python_files(self):
        names = [path.name for path in PACKAGE.iterdir() if path.name != "__pycache__"]
        self.assertEqual(sorted(names), sorted(f"{name}.py" for name in SOURCES))
        for name in SOURCES:
            self.assertTrue(name == name.lower() and name.isascii(), name)

    def test_characters_and_sizes(self):
        for name, text in SOURCES.items():
            self.assertTrue(all(" " <= character <= "~" or character == "\n" for character in text), name)
            lines = text.split("\n")
            self.assertLessEqual(len(lines), 399, name)
            self.assertLessEqual(max(len(line) for line in lines), 120, name)
            for node in nodes(TREES[name], ast.FunctionDef):
                self.assertLessEqual(node.end_lineno - node.lineno + 1, 40, f"{name}.{node.name}")

    def test_barred_words(self):
        for name, text in SOURCES.items():
            words = text.replace(".", " ").replace("(", " ").replace(",", " ").split()
            for word in BARRED_WORDS:
                self.assertNotIn(word, words, name)


class ImportsTest(unittest.TestCase):
    def test_imports_name_the_file_that_defines(self):
        for name, tree in TREES.items():
            for node in nodes(tree, ast.ImportFrom):
                self.assertIn(node, tree.body, name)
                self.assertEqual((node.level, node.module.split(".")[0]), (0, "huefall"), name)
                source = node.module.split(".")[1]
                for alias in node.names:
                    self.assertIsNone(alias.asname)
                    self.assertIn(alias.name, defined_names(TREES[source]), name)

    def test_imported_names_are_used(self):
        for name, tree in TREES.items():
            used = [node.id for node in nodes(tree, ast.Name)]
            for node in nodes(tree, ast.ImportFrom):
                for alias in node.names:
                    self.assertIn(alias.name, used, name)

    def test_no_circle_of_imports(self):
        waiting = {
            name: {node.module.split(".")[1] for node in nodes(tree, ast.ImportFrom)} for name, tree in TREES.items()
        }
        while waiting:
            free = [name for name, sources in waiting.items() if not sources & set(waiting)]
            self.assertTrue(free, f"a circle among {sorted(waiting)}")
            for name in free:
                del waiting[name]


class StatementsTest(unittest.TestCase):
    def test_top_of_files(self):
        for name, tree in TREES.items():
            self.assertTrue(ast.get_docstring(tree), name)
            functions = []
            for node in tree.body[1:]:
                if isinstance(node, ast.FunctionDef):
                    functions.append(node.name)
                if isinstance(node, ast.Assign):
                    self.assertTrue(is_plain_value(node.value, functions), name)
                else:
                    self.assertIsInstance(node, (ast.ImportFrom, ast.FunctionDef, ast.ClassDef), name)
            names = defined_names(tree)
            self.assertEqual(len(names), len(set(names)), name)

    def test_unused_statements(self):
        for name, tree in TREES.items():
            self.assertEqual(nodes(tree, *UNUSED_STATEMENTS), [], name)

    def test_handlers_name_own_errors(self):
        own = defined_names(TREES["errors"])
        for name, tree in TREES.items():
            for node in nodes(tree, ast.ExceptHandler):
                self.assertIn(node.type.id, [*own, "KeyError"], name)

    def test_decorators(self):
        for name, tree in TREES.items():
            for node in nodes(tree, ast.FunctionDef, ast.ClassDef):
                for decorator in node.decorator_list:
                    setter = f"{getattr(node, 'name', None)}.setter"
                    self.assertIn(ast.unparse(decorator), ["staticmethod", "classmethod", "property", setter], name)


class ExpressionsTest(unittest.TestCase):
    def test_values_and_operators(self):
        for name, tree in TREES.items():
            for node in nodes(tree, ast.Constant):
                self.assertNotIsInstance(node.value, (float, complex), name)
            for node in nodes(tree, ast.BinOp, ast.AugAssign):
                self.assertNotIsInstance(node.op, (ast.Div, ast.Pow, ast.MatMult), name)
            for node in nodes(tree, ast.Compare):
                if any(isinstance(sign, (ast.Is, ast.IsNot)) for sign in node.ops):
                    self.assertIn(ast.unparse(node.comparators[-1]), ["None", "True", "False"], name)

    def test_builtins(self):
        for name, tree in TREES.items():
            known = [*BUILTINS, *bound_names(tree), "staticmethod", "classmethod", "property", "super"]
            for node in nodes(tree, ast.Name):
                self.assertIn(node.id, known, name)

    def test_names(self):
        for name, tree in TREES.items():
            outer = [alias.name for node in nodes(tree, ast.ImportFrom) for alias in node.names]
            outer += [node.name for node in nodes(tree, ast.ClassDef)]
            inner = [node.arg for node in nodes(tree, ast.arg)]
            inner += [node.id for node in nodes(tree, ast.Name) if isinstance(node.ctx, ast.Store)]
            self.assertEqual(sorted(set(outer) & set(inner)), [], name)
            for bound in set(bound_names(tree)) - {"_"}:
                self.assertNotIn(bound, dir(builtins), name)

    def test_methods(self):
        own = [node.name for tree in TREES.values() for node in nodes(tree, ast.FunctionDef)]
        for name, tree in TREES.items():
            for node in nodes(tree, ast.Call):
                if isinstance(node.func, ast.Attribute):
                    self.assertIn(node.func.attr, [*METHODS, *own], name)

    def test_generator_expressions(self):
        for name, tree in TREES.items():
            for node in nodes(tree, ast.Call):
                if name_of_call(node) in TAKE_LISTS:
                    self.assertFalse([part for part in node.args if isinstance(part, ast.GeneratorExp)], name)

    def test_generators_are_iterated_at_once(self):
        yielding = generators()
        for name, tree in TREES.items():
            allowed = [node.iter for node in nodes(tree, ast.For, ast.comprehension)]
            for node in nodes(tree, ast.Call):
                if name_of_call(node) in MAY_ITERATE:
                    allowed += node.args
            called = [node for node in nodes(tree, ast.Call) if name_of_call(node) in yielding]
            for node in called:
                self.assertIn(node, allowed, f"{name} line {node.lineno}")
            used = [node for node in nodes(tree, ast.Name) if node.id in yielding]
            self.assertEqual(len(used), len(called), name)

    def test_no_name_is_a_method_and_an_attribute(self):
        owners = [node for tree in TREES.values() for node in nodes(tree, ast.ClassDef)]
        methods = {node.name for owner in owners for node in nodes(owner, ast.FunctionDef)}
        attributes = [node for tree in TREES.values() for node in nodes(tree, ast.Attribute)]
        assigned = {node.attr for node in attributes if isinstance(node.ctx, ast.Store)}
        self.assertEqual(methods & assigned, set())

    def test_iterated_on_the_spot(self):
        for name, tree in TREES.items():
            allowed = [node.iter for node in nodes(tree, ast.For, ast.comprehension)]
            allowed += [node.value for node in nodes(tree, ast.Assign)]
            for node in nodes(tree, ast.Call):
                if name_of_call(node) in MAY_ITERATE:
                    allowed += node.args
                if name_of_call(node) == "reversed":
                    allowed += [part for part in node.args if ast.unparse(part).startswith("range(")]
            for node in nodes(tree, ast.Call):
                if name_of_call(node) in ON_THE_SPOT:
                    self.assertIn(node, allowed, f"{name} line {node.lineno}")

    def test_strings(self):
        for name, tree in TREES.items():
            for node in nodes(tree, ast.Constant):
                if isinstance(node.value, str):
                    self.assertNotIn(chr(37), node.value, name)
