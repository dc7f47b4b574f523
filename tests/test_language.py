"""A part of the language's rules (L1 to L28): what is easily seen from the package's files."""

import ast
import builtins
import pathlib
import re
import unittest

PACKAGE = pathlib.Path(__file__).resolve().parent.parent / "chargeyard"
FILES = sorted(path for path in PACKAGE.rglob("*") if path.is_file() and "__pycache__" not in path.parts)

OWN_NAMES = set(
    "len range enumerate zip min max sum abs sorted reversed int str bool list tuple dict set frozenset isinstance "
    "ord repr any all divmod Exception ValueError TypeError KeyError IndexError LookupError ZeroDivisionError "
    "ArithmeticError OverflowError RuntimeError NotImplementedError AttributeError StopIteration".split()
)
OWN_METHODS = set(
    "append clear copy count endswith extend find get index insert isalnum isalpha isdigit islower isspace isupper "
    "items join keys ljust lower lstrip partition pop remove replace reverse rfind rjust rpartition rsplit rstrip "
    "setdefault split splitlines startswith strip update upper values zfill bit_length".split()
)
VALUES_FREE = set("count index title find get join lower upper split strip copy add".split())
CHANGES = set("append clear extend insert pop remove reverse setdefault update".split())
DUNDERS = {"__init__", "__eq__", "__repr__", "__str__", "__len__"}
OUT_WORDS = re.compile(
    r"\b(type|typing|typing_extensions|enum|Enum|IntEnum|StrEnum|Flag|IntFlag|Generic|Protocol|ABC|ABCMeta|namedtuple"
    r"|NamedTuple|TypedDict|TYPE_CHECKING|abstractmethod)\b|dataclass|overload|contextmanager"
)
KINDS_OUT = (
    ast.With, ast.Match, ast.Delete, ast.Global, ast.Nonlocal, ast.Assert, ast.Yield, ast.YieldFrom, ast.Await,
    ast.AsyncFor, ast.AsyncWith, ast.AsyncFunctionDef, ast.Div, ast.MatMult, ast.SetComp,
    ast.DictComp, ast.GeneratorExp, ast.NamedExpr, ast.Starred, ast.Import, ast.AnnAssign,
)


def bound_names(tree):
    for node in ast.walk(tree):
        if isinstance(node, ast.Name) and isinstance(node.ctx, ast.Store):
            yield node.id
        elif isinstance(node, (ast.FunctionDef, ast.ClassDef)):
            yield node.name
        elif isinstance(node, ast.arg):
            yield node.arg
        elif isinstance(node, ast.ExceptHandler) and node.name:
            yield node.name


def top_names(tree):
    for node in tree.body:
        if isinstance(node, (ast.FunctionDef, ast.ClassDef)):
            yield node.name
        elif isinstance(node, ast.Assign):
            yield node.targets[0].id
        elif isinstance(node, ast.ImportFrom):
            yield from [name.asname or name.name for name in node.names]


def imported_names(tree):
    return [part.name for node in tree.body if isinstance(node, ast.ImportFrom) for part in node.names]


def local_names(function):
    for node in ast.walk(function):
        if isinstance(node, ast.Name) and isinstance(node.ctx, ast.Store):
            yield node.id
        elif isinstance(node, ast.arg):
            yield node.arg


def values_given(tree):
    for node in ast.walk(tree):
        if isinstance(node, ast.Attribute) and isinstance(node.ctx, ast.Store):
            yield node.attr


def defined_names(tree):
    return [name.name for name in tree.body if isinstance(name, (ast.FunctionDef, ast.ClassDef))] + [
        name.targets[0].id for name in tree.body if isinstance(name, ast.Assign)
    ]


class LanguageTest(unittest.TestCase):
    def setUp(self):
        self.texts = {path.name: path.read_text(encoding="utf-8") for path in FILES}
        self.trees = {name: ast.parse(text) for name, text in self.texts.items()}
        self.methods = set()
        for tree in self.trees.values():
            for node in ast.walk(tree):
                if isinstance(node, ast.ClassDef):
                    self.methods.update(part.name for part in node.body if isinstance(part, ast.FunctionDef))

    def nodes(self):
        for name, tree in self.trees.items():
            for node in ast.walk(tree):
                yield f"{name}:{getattr(node, 'lineno', 0)}", node

    def test_files(self):
        self.assertIn("__init__.py", self.texts)
        for path in FILES:
            self.assertEqual(path.parent, PACKAGE)
            self.assertRegex(path.name, r"\A[a-z0-9_]+\.py\Z")
            self.assertNotRegex(path.name, r"\A(tests?|testing|test_.*|site|conftest|sitecustomize|usercustomize)\.py\Z")
            self.assertNotIn(path.stem, dir(builtins))

    def test_signs_and_sizes(self):
        for name, text in self.texts.items():
            self.assertRegex(text, r"\A[ -~\n]*\Z", name)
            self.assertLessEqual(len(text.split("\n")) - 1, 400, name)
            self.assertLessEqual(max(len(row) for row in text.split("\n")), 120, name)
            self.assertIsNone(OUT_WORDS.search(text), name)
        for place, node in self.nodes():
            if isinstance(node, ast.FunctionDef):
                self.assertLessEqual(node.end_lineno - node.lineno + 1, 40, place)

    def test_kinds_of_statements_and_expressions(self):
        for place, node in self.nodes():
            self.assertNotIsInstance(node, KINDS_OUT, place)
            if isinstance(node, ast.Assign):
                self.assertEqual(len(node.targets), 1, place)
            if isinstance(node, ast.Constant):
                self.assertIsInstance(node.value, (int, str, type(None)), place)
            if isinstance(node, ast.Try):
                self.assertEqual(node.finalbody, [], place)
            if isinstance(node, (ast.For, ast.While)):
                self.assertEqual(node.orelse, [], place)
            if isinstance(node, ast.ListComp):
                self.assertEqual(len(node.generators), 1, place)
                self.assertLessEqual(len(node.generators[0].ifs), 1, place)
            if isinstance(node, ast.Compare) and any(isinstance(op, (ast.Is, ast.IsNot)) for op in node.ops):
                self.assertIn(ast.unparse(node.comparators[-1]), ("None", "True", "False"), place)

    def test_functions_and_classes(self):
        for place, node in self.nodes():
            if isinstance(node, (ast.FunctionDef, ast.ClassDef)):
                self.assertEqual(node.decorator_list, [], place)
            if isinstance(node, ast.arguments):
                self.assertFalse(node.vararg or node.kwarg or node.kwonlyargs or node.posonlyargs, place)
            if isinstance(node, ast.ClassDef):
                self.assertLessEqual(len(node.bases), 1, place)
                for part in node.body:
                    self.assertIsInstance(part, (ast.FunctionDef, ast.Expr, ast.Pass), place)

    def test_names(self):
        for name, tree in self.trees.items():
            top = list(top_names(tree))
            self.assertEqual(len(top), len(set(top)), name)
            for bound in bound_names(tree):
                self.assertTrue(bound in DUNDERS or not bound.startswith("_"), (name, bound))
                self.assertFalse(bound in dir(builtins) and bound not in self.methods, (name, bound))
            defined = set(bound_names(tree)) | set(top)
            for node in ast.walk(tree):
                if isinstance(node, ast.Name) and isinstance(node.ctx, ast.Load):
                    self.assertIn(node.id, defined | OWN_NAMES, name)

    def test_methods(self):
        for place, node in self.nodes():
            if isinstance(node, ast.Call) and isinstance(node.func, ast.Attribute):
                self.assertIn(node.func.attr, OWN_METHODS | self.methods | DUNDERS, place)

    def test_values_of_objects(self):
        of_python = {name for kind in (str, int, list, dict, set, bytes, tuple) for name in dir(kind)}
        for name, tree in self.trees.items():
            for value in values_given(tree):
                self.assertNotIn(value, self.methods, name)
                self.assertNotIn(value, of_python - VALUES_FREE, name)
        self.assertEqual(self.methods & (of_python - OWN_METHODS - DUNDERS - {"add", "discard"}), set())

    def test_locals_are_not_called_like_imports_or_classes(self):
        for name, tree in self.trees.items():
            classes = [node.name for node in tree.body if isinstance(node, ast.ClassDef)]
            for node in ast.walk(tree):
                if isinstance(node, (ast.FunctionDef, ast.Lambda)):
                    self.assertEqual(set(local_names(node)) & set(classes + imported_names(tree)), set(), name)

    def test_walked_at_once(self):
        at_once = {"zip", "enumerate", "reversed", "range"}
        for place, node in self.nodes():
            if isinstance(node, (ast.Assign, ast.AugAssign, ast.Return)) and isinstance(node.value, ast.Call):
                called = node.value.func
                self.assertNotIn(getattr(called, "id", None), at_once, place)
                self.assertNotIn(getattr(called, "attr", None), {"items", "keys", "values"}, place)

    def test_what_a_loop_walks_is_not_changed_in_it(self):
        for place, node in self.nodes():
            if isinstance(node, ast.For):
                walked = ast.unparse(node.iter)
                for part in node.body:
                    for inner in ast.walk(part):
                        if isinstance(inner, ast.Call) and isinstance(inner.func, ast.Attribute):
                            is_change = inner.func.attr in CHANGES and ast.unparse(inner.func.value) == walked
                            self.assertFalse(is_change, place)
                        if isinstance(inner, ast.Subscript) and isinstance(inner.ctx, ast.Store):
                            self.assertNotEqual(ast.unparse(inner.value), walked, place)

    def test_errors_that_are_taken_are_the_programs_own(self):
        own = defined_names(self.trees["errors.py"])
        for place, node in self.nodes():
            if isinstance(node, ast.ExceptHandler):
                self.assertIn(getattr(node.type, "id", None), own, place)
            if isinstance(node, ast.Raise):
                self.assertIn(getattr(getattr(node.exc, "func", None), "id", None), own, place)

    def test_texts_and_powers(self):
        for place, node in self.nodes():
            if isinstance(node, ast.Constant) and isinstance(node.value, str):
                self.assertNotIn("%", node.value, place)
            if isinstance(node, ast.BinOp) and isinstance(node.op, ast.Pow):
                self.assertIn(getattr(node.right, "value", None), range(65), place)

    def test_keywords_and_sets(self):
        for place, node in self.nodes():
            if isinstance(node, ast.Call):
                self.assertEqual([part.arg for part in node.keywords if part.arg not in ("key", "reverse")], [], place)
                self.assertNotIn(getattr(node.func, "id", None), ("set", "frozenset"), place)
            self.assertNotIsInstance(node, ast.Set, place)

    def test_imports(self):
        drawn = {}
        for name, tree in self.trees.items():
            drawn[name] = []
            for node in ast.walk(tree):
                if isinstance(node, ast.ImportFrom) and node.module != "__future__":
                    self.assertEqual(node.level, 0, name)
                    self.assertRegex(node.module, r"\Achargeyard\.[a-z0-9_]+\Z", name)
                    source = node.module.split(".")[1] + ".py"
                    drawn[name].append(source)
                    for part in node.names:
                        self.assertIn(part.name, defined_names(self.trees[source]), name)
        while drawn:
            free = [name for name in drawn if not any(source in drawn for source in drawn[name])]
            self.assertTrue(free, f"these draw from one another: {sorted(drawn)}")
            drawn = {name: sources for name, sources in drawn.items() if name not in free}


if __name__ == "__main__":
    unittest.main()
