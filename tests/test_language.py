"""The form of the package's own files: what of LANGUAGE.md can be seen by reading them."""

import ast
import builtins
import pathlib
import re
import unittest

PACKAGE = pathlib.Path(__file__).resolve().parent.parent / "retryhall"
FILES = sorted(path for path in PACKAGE.rglob("*") if "__pycache__" not in path.parts)

BUILTINS = set(
    "len range enumerate zip min max sum abs sorted reversed int str bool list tuple dict set frozenset isinstance "
    "ord repr any all divmod Exception ValueError TypeError KeyError IndexError LookupError ZeroDivisionError "
    "ArithmeticError OverflowError RuntimeError NotImplementedError AttributeError StopIteration".split()
)
METHODS = set(
    "append clear copy count endswith extend find get index insert isalnum isalpha isdigit islower isspace isupper "
    "items join keys ljust lower lstrip partition pop remove replace reverse rfind rjust rpartition rsplit rstrip "
    "setdefault split splitlines startswith strip update upper values zfill bit_length".split()
)
DOUBLE = {"__init__", "__eq__", "__repr__", "__str__", "__len__"}
WORDS_OUT = re.compile(
    r"\b(type|typing|typing_extensions|enum|Enum|IntEnum|StrEnum|Flag|IntFlag|Generic|Protocol|ABC|ABCMeta|namedtuple"
    r"|NamedTuple|TypedDict|TYPE_CHECKING|abstractmethod)\b|dataclass|overload|contextmanager"
)
NAMES_OUT = {"register", "mro", "elements", "open", "input", "version_info", "with_traceback", "add_note", "format",
             "format_map"}
NODES_OUT = (
    ast.With, ast.Match, ast.Delete, ast.Global, ast.Nonlocal, ast.Assert, ast.Yield, ast.YieldFrom, ast.Await,
    ast.AsyncFunctionDef, ast.AsyncFor, ast.AsyncWith, ast.SetComp, ast.DictComp, ast.GeneratorExp, ast.NamedExpr,
    ast.Starred, ast.Div, ast.MatMult, ast.AnnAssign, ast.Import,
)


def own_names(tree):
    # Methods and values of objects by name, for the rule that no name is both.
    methods, values = set(), set()
    for kind in ast.walk(tree):
        if isinstance(kind, ast.ClassDef):
            methods |= {part.name for part in kind.body if isinstance(part, ast.FunctionDef)}
    for node in ast.walk(tree):
        if isinstance(node, ast.Attribute) and isinstance(node.ctx, ast.Store):
            values.add(node.attr)
    return methods, values


class LanguageTest(unittest.TestCase):
    def setUp(self):
        self.texts = {path: path.read_text(encoding="utf-8") for path in FILES if path.is_file()}
        self.trees = {path: ast.parse(text) for path, text in self.texts.items()}

    def nodes(self):
        for path, tree in self.trees.items():
            for node in ast.walk(tree):
                yield "%s:%s" % (path.name, getattr(node, "lineno", "-")), node

    def test_files(self):
        self.assertIn(PACKAGE / "__init__.py", self.texts)
        for path in FILES:
            self.assertTrue(path.is_file(), path)
            self.assertRegex(path.name, r"^(__init__|__main__|[a-z][a-z0-9_]*)\.py$")
            self.assertNotRegex(path.name, r"^(test|site|conftest|sitecustomize|usercustomize)")
            self.assertFalse(path.stem[0] != "_" and hasattr(builtins, path.stem), path)

    def test_signs_and_sizes(self):
        for path, text in self.texts.items():
            self.assertRegex(text, r"\A[ -~\n]*\Z", path)
            self.assertLessEqual(len(text.splitlines()), 400, path)
            for line in text.splitlines():
                self.assertLessEqual(len(line), 120, (path, line))
            self.assertIsNone(WORDS_OUT.search(text), path)
        for place, node in self.nodes():
            if isinstance(node, ast.FunctionDef):
                self.assertLessEqual(node.end_lineno - node.lineno + 1, 40, place)

    def test_imports(self):
        for place, node in self.nodes():
            if isinstance(node, ast.ImportFrom):
                self.assertEqual(node.level, 0, place)
                self.assertRegex(node.module, r"^retryhall\.[a-z]", place)
                self.assertTrue((PACKAGE / (node.module.split(".")[1] + ".py")).is_file(), place)
                self.assertNotIn("*", [name.name for name in node.names], place)

    def test_statements_and_expressions(self):
        for place, node in self.nodes():
            self.assertNotIsInstance(node, NODES_OUT, place)
            if isinstance(node, ast.Assign):
                self.assertEqual(len(node.targets), 1, place)
            if isinstance(node, (ast.For, ast.While)):
                self.assertEqual(node.orelse, [], place)
            if isinstance(node, ast.Try):
                self.assertEqual(node.finalbody, [], place)
            if isinstance(node, ast.Constant):
                self.assertNotIsInstance(node.value, (float, bytes, complex), place)
                self.assertFalse(isinstance(node.value, str) and "%" in node.value, place)
            if isinstance(node, ast.FormattedValue):
                self.assertIsInstance(node.value, ast.Name, place)
            if isinstance(node, ast.ListComp):
                self.assertEqual(len(node.generators), 1, place)
                self.assertLessEqual(len(node.generators[0].ifs), 1, place)

    def test_functions_and_classes(self):
        for place, node in self.nodes():
            if isinstance(node, ast.FunctionDef):
                self.assertEqual(node.decorator_list, [], place)
                self.assertIsNone(node.args.vararg, place)
                self.assertIsNone(node.args.kwarg, place)
                self.assertEqual(node.args.kwonlyargs + node.args.posonlyargs, [], place)
            if isinstance(node, ast.ClassDef):
                self.assertEqual(node.decorator_list + node.keywords, [], place)
                self.assertLessEqual(len(node.bases), 1, place)
                for part in node.body:
                    self.assertIsInstance(part, (ast.FunctionDef, ast.Pass), place)

    def test_names(self):
        for place, node in self.nodes():
            if isinstance(node, ast.Name):
                names = [node.id]
                if hasattr(builtins, node.id):
                    self.assertIn(node.id, BUILTINS, place)
                    self.assertIsInstance(node.ctx, ast.Load, place)
            elif isinstance(node, ast.arg):
                names = [node.arg]
                self.assertFalse(hasattr(builtins, node.arg), place)
            elif isinstance(node, ast.Attribute):
                names = [node.attr]
            elif isinstance(node, (ast.FunctionDef, ast.ClassDef)):
                names = [node.name]
            else:
                names = []
            for name in names:
                self.assertTrue(name in DOUBLE or not name.startswith("_"), (place, name))
                self.assertNotIn(name, NAMES_OUT, place)

    def test_methods_and_values(self):
        methods, values = set(), set()
        for tree in self.trees.values():
            more_methods, more_values = own_names(tree)
            methods |= more_methods
            values |= more_values
        self.assertEqual(methods & values, set())
        for place, node in self.nodes():
            if isinstance(node, ast.Call) and isinstance(node.func, ast.Attribute):
                self.assertIn(node.func.attr, METHODS | methods, place)


if __name__ == "__main__":
    unittest.main()
