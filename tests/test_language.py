"""The form of the package's own files: what of LANGUAGE.md can be seen by reading them."""

import ast
import builtins
import pathlib
import re
import unittest

PACKAGE = pathlib.Path(__file__).resolve().parent.parent / "retryhall"
FILES = sorted(path for path in PACKAGE.rglob("*") if "__pycache__" not in path.parts)

BUILTINS = set(
    "len range enumerate zip min max sum abs sorted reversed int str bool list tuple dict set frozenset isinstance "
    "ord repr any all divmod Exception ValueError TypeError KeyError IndexError LookupError ZeroDivisionError "
    "ArithmeticError OverflowError RuntimeError NotImplementedError AttributeError StopIteration".split()
)
METHODS = set(
    "append clear copy count endswith extend find get index insert isalnum isalpha isdigit islower isspace isupper "
    "items join keys ljust lower lstrip partition pop remove replace reverse rfind rjust rpartition rsplit rstrip "
    "setdefault split splitlines startswith strip update upper values zfill bit_length".split()
)
DOUBLE = {"__init__", "__eq__", "__repr__", "__str__", "__len__"}
WORDS_OUT = re.compile(
    r"\b(type|typing|typing_extensions|enum|Enum|IntEnum|StrEnum|Flag|IntFlag|Generic|Protocol|ABC|ABCMeta|namedtuple"
    r"|NamedTuple|TypedDict|TYPE_CHECKING|abstractmethod)\b|dataclass|overload|contextmanager"
)
NAMES_OUT = {"register", "mro", "elements", "open", "input", "version_info", "with_traceback", "add_note", "format",
             "format_map"}
NODES_OUT = (
    ast.With, ast.Match, ast.Delete, ast.Global, ast.Nonlocal, ast.Assert, ast.Yield, ast.YieldFrom, ast.Await,
    ast.AsyncFunctionDef, ast.AsyncFor, ast.AsyncWith, ast.SetComp, ast.DictComp, ast.GeneratorExp, ast.NamedExpr,
    ast.Starred, ast.Div, ast.MatMult, ast.AnnAssign, ast.Import,
)


VALUES_OUT = set(
    "items keys values pop update append clear extend insert remove reverse setdefault sort args encode format".split()
)
WALKED_BY_FUNCTIONS = {"list", "tuple", "dict", "sorted", "sum", "any", "all", "enumerate", "zip", "min", "max"}


def top_names(tree):
    # The names that a file binds at its top: imports, functions, classes, plain values.
    names = []
    for node in tree.body:
        if isinstance(node, ast.ImportFrom):
            names += [name.asname or name.name for name in node.names]
        elif isinstance(node, (ast.FunctionDef, ast.ClassDef)):
            names.append(node.name)
        elif isinstance(node, ast.Assign):
            names += [target.id for target in node.targets]
    return names


def class_and_import_names(tree):
    kept = [node for node in tree.body if isinstance(node, (ast.ImportFrom, ast.ClassDef))]
    return set(top_names(ast.Module(body=kept, type_ignores=[])))


def drawn_from(tree):
    return {node.module.split(".")[1] for node in tree.body if isinstance(node, ast.ImportFrom)}


def walked_places(tree):
    # The nodes that stand where something is walked on the spot.
    places = set()
    for node in ast.walk(tree):
        if isinstance(node, (ast.For, ast.comprehension)):
            places.add(node.iter)
        elif isinstance(node, ast.Call) and isinstance(node.func, ast.Name) and node.func.id in WALKED_BY_FUNCTIONS:
            places.update(node.args)
    return places


def is_walk(node):
    if not isinstance(node, ast.Call):
        return False
    if isinstance(node.func, ast.Name):
        return node.func.id in ("zip", "enumerate", "reversed", "range")
    return isinstance(node.func, ast.Attribute) and node.func.attr in ("items", "keys", "values")


def own_names(tree):
    # Methods and values of objects by name, for the rule that no name is both.
    methods, values = set(), set()
    for kind in ast.walk(tree):
        if isinstance(kind, ast.ClassDef):
            methods |= {part.name for part in kind.body if isinstance(part, ast.FunctionDef)}
    for node in ast.walk(tree):
        if isinstance(node, ast.Attribute) and isinstance(node.ctx, ast.Store):
            values.add(node.attr)
    return methods, values


class LanguageTest(unittest.TestCase):
    def setUp(self):
        self.texts = {path: path.read_text(encoding="utf-8") for path in FILES if path.is_file()}
        self.trees = {path: ast.parse(text) for path, text in self.texts.items()}

    def nodes(self):
        for path, tree in self.trees.items():
            for node in ast.walk(tree):
                yield "%s:%s" % (path.name, getattr(node, "lineno", "-")), node

    def test_files(self):
        self.assertIn(PACKAGE / "__init__.py", self.texts)
        for path in FILES:
            self.assertTrue(path.is_file(), path)
            self.assertRegex(path.name, r"^(__init__|__main__|[a-z][a-z0-9_]*)\.py$")
            self.assertNotRegex(path.name, r"^(test|site|conftest|sitecustomize|usercustomize)")
            self.assertFalse(path.stem[0] != "_" and hasattr(builtins, path.stem), path)

    def test_signs_and_sizes(self):
        for path, text in self.texts.items():
            self.assertRegex(text, r"\A[ -~\n]*\Z", path)
            self.assertLessEqual(len(text.splitlines()), 400, path)
            for line in text.splitlines():
                self.assertLessEqual(len(line), 120, (path, line))
            self.assertIsNone(WORDS_OUT.search(text), path)
        for place, node in self.nodes():
            if isinstance(node, ast.FunctionDef):
                self.assertLessEqual(node.end_lineno - node.lineno + 1, 40, place)

    def test_imports(self):
        for place, node in self.nodes():
            if isinstance(node, ast.ImportFrom):
                self.assertEqual(node.level, 0, place)
                self.assertRegex(node.module, r"^retryhall\.[a-z]", place)
                self.assertTrue((PACKAGE / (node.module.split(".")[1] + ".py")).is_file(), place)
                self.assertNotIn("*", [name.name for name in node.names], place)

    def test_what_is_imported_is_defined_there(self):
        for tree in self.trees.values():
            for node in tree.body:
                if isinstance(node, ast.ImportFrom):
                    drawn = self.trees[PACKAGE / (node.module.split(".")[1] + ".py")]
                    own = [part for part in drawn.body if not isinstance(part, ast.ImportFrom)]
                    names = top_names(ast.Module(body=own, type_ignores=[]))
                    for name in node.names:
                        self.assertIn(name.name, names, node.module)

    def test_no_two_files_draw_from_one_another(self):
        drawn = {path.stem: drawn_from(tree) for path, tree in self.trees.items()}
        while drawn:
            ready = [name for name in drawn if not drawn[name] & set(drawn)]
            self.assertNotEqual(ready, [], drawn)
            for name in ready:
                drawn.pop(name)

    def test_the_top_of_a_module(self):
        for path, tree in self.trees.items():
            for place, node in enumerate(tree.body):
                docstring = place == 0 and isinstance(node, ast.Expr) and isinstance(node.value, ast.Constant)
                kinds = (ast.ImportFrom, ast.FunctionDef, ast.ClassDef, ast.Assign)
                self.assertTrue(docstring or isinstance(node, kinds), (path, node.lineno))
                if isinstance(node, ast.Assign):
                    for part in ast.walk(node.value):
                        plain = (ast.Constant, ast.List, ast.Tuple, ast.Dict, ast.Name, ast.Load)
                        self.assertIsInstance(part, plain, (path, node.lineno))
            names = top_names(tree)
            self.assertEqual(len(names), len(set(names)), path)

    def test_locals_are_not_called_like_classes_or_imports(self):
        for path, tree in self.trees.items():
            taken = class_and_import_names(tree)
            for node in ast.walk(tree):
                if isinstance(node, ast.arg):
                    self.assertNotIn(node.arg, taken, (path, node.lineno))
                if isinstance(node, ast.Name) and isinstance(node.ctx, ast.Store):
                    self.assertNotIn(node.id, taken, (path, node.lineno))

    def test_classes_stand_where_they_may(self):
        classes = {node.name for place, node in self.nodes() if isinstance(node, ast.ClassDef)}
        for path, tree in self.trees.items():
            good = set()
            for node in ast.walk(tree):
                if isinstance(node, ast.Call):
                    good.add(node.func)
                    if isinstance(node.func, ast.Name) and node.func.id == "isinstance":
                        good.add(node.args[1])
                        good.update(getattr(node.args[1], "elts", []))
                    # A base's own beginning is called by the base's name.
                    if isinstance(node.func, ast.Attribute) and node.func.attr == "__init__":
                        good.add(node.func.value)
                if isinstance(node, ast.ClassDef):
                    good.update(node.bases)
                if isinstance(node, ast.ExceptHandler):
                    good.add(node.type)
                    good.update(getattr(node.type, "elts", []))
            for node in ast.walk(tree):
                if isinstance(node, ast.Name) and node.id in classes:
                    self.assertIn(node, good, (path, node.lineno))

    def test_is_stands_beside_none_true_false_alone(self):
        for place, node in self.nodes():
            if isinstance(node, ast.Compare):
                for operator, other in zip(node.ops, node.comparators):
                    if isinstance(operator, (ast.Is, ast.IsNot)):
                        self.assertIsInstance(other, ast.Constant, place)
                        self.assertIn(other.value, (None, True, False), place)

    def test_walked_at_once(self):
        for path, tree in self.trees.items():
            places = walked_places(tree)
            for node in ast.walk(tree):
                if is_walk(node):
                    self.assertIn(node, places, (path, node.lineno))

    def test_no_sets_are_kept(self):
        for place, node in self.nodes():
            self.assertNotIsInstance(node, ast.Set, place)
            if isinstance(node, ast.Name):
                self.assertNotIn(node.id, ("set", "frozenset"), place)

    def test_statements_and_expressions(self):
        for place, node in self.nodes():
            self.assertNotIsInstance(node, NODES_OUT, place)
            if isinstance(node, ast.Assign):
                self.assertEqual(len(node.targets), 1, place)
            if isinstance(node, (ast.For, ast.While)):
                self.assertEqual(node.orelse, [], place)
            if isinstance(node, ast.Try):
                self.assertEqual(node.finalbody, [], place)
            if isinstance(node, ast.Constant):
                self.assertNotIsInstance(node.value, (float, bytes, complex), place)
                self.assertFalse(isinstance(node.value, str) and "%" in node.value, place)
            if isinstance(node, ast.FormattedValue):
                self.assertIsInstance(node.value, ast.Name, place)
            if isinstance(node, ast.ListComp):
                self.assertEqual(len(node.generators), 1, place)
                self.assertLessEqual(len(node.generators[0].ifs), 1, place)

    def test_functions_and_classes(self):
        for place, node in self.nodes():
            if isinstance(node, ast.FunctionDef):
                self.assertEqual(node.decorator_list, [], place)
                self.assertIsNone(node.args.vararg, place)
                self.assertIsNone(node.args.kwarg, place)
                self.assertEqual(node.args.kwonlyargs + node.args.posonlyargs, [], place)
            if isinstance(node, ast.ClassDef):
                self.assertEqual(node.decorator_list + node.keywords, [], place)
                self.assertLessEqual(len(node.bases), 1, place)
                for part in node.body:
                    self.assertIsInstance(part, (ast.FunctionDef, ast.Pass), place)

    def test_names(self):
        for place, node in self.nodes():
            if isinstance(node, ast.Name):
                names = [node.id]
                if hasattr(builtins, node.id):
                    self.assertIn(node.id, BUILTINS, place)
                    self.assertIsInstance(node.ctx, ast.Load, place)
            elif isinstance(node, ast.arg):
                names = [node.arg]
                self.assertFalse(hasattr(builtins, node.arg), place)
            elif isinstance(node, ast.Attribute):
                names = [node.attr]
            elif isinstance(node, (ast.FunctionDef, ast.ClassDef)):
                names = [node.name]
            else:
                names = []
            for name in names:
                self.assertTrue(name in DOUBLE or not name.startswith("_"), (place, name))
                self.assertNotIn(name, NAMES_OUT, place)

    def test_methods_and_values(self):
        methods, values = set(), set()
        for tree in self.trees.values():
            more_methods, more_values = own_names(tree)
            methods |= more_methods
            values |= more_values
        self.assertEqual(methods & values, set())
        self.assertEqual(values & VALUES_OUT, set())
        for place, node in self.nodes():
            if isinstance(node, ast.Call) and isinstance(node.func, ast.Attribute):
                self.assertIn(node.func.attr, METHODS | methods, place)


if __name__ == "__main__":
    unittest.main()
