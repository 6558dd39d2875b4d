"""The package keeps to its part of Python: the rules of ../shared/LANGUAGE.md that a walk over the tree can see."""

import ast
import builtins
import pathlib
import re
import unittest

PACKAGE = pathlib.Path(__file__).resolve().parent.parent / "leastform"

STATEMENTS = (
    ast.FunctionDef, ast.ClassDef, ast.Return, ast.Assign, ast.AugAssign, ast.AnnAssign, ast.For, ast.While, ast.If,
    ast.Raise, ast.Try, ast.ImportFrom, ast.Import, ast.Expr, ast.Pass, ast.Break, ast.Continue,
)
EXPRESSIONS_OUT = (
    ast.SetComp, ast.DictComp, ast.GeneratorExp, ast.NamedExpr, ast.Starred, ast.Yield, ast.YieldFrom, ast.Await,
)
BUILTINS_IN = set(
    "len range enumerate zip min max sum abs sorted reversed int str bool list tuple dict set frozenset isinstance ord "
    "repr any all divmod Exception ValueError TypeError KeyError IndexError LookupError ZeroDivisionError "
    "ArithmeticError OverflowError RuntimeError NotImplementedError AttributeError StopIteration print object float "
    "bytes True False None".split()
)
METHODS_IN = set(
    "append clear copy count endswith extend find get index insert isalnum isalpha isdigit islower isspace isupper items "
    "join keys ljust lower lstrip partition pop remove replace reverse rfind rjust rpartition rsplit rstrip setdefault "
    "split splitlines startswith strip update upper values zfill bit_length".split()
)
PYTHON_S_OWN_METHODS = {
    name for kind in (str, int, list, dict, set, bytes, tuple) for name in vars(kind) if not name.startswith("_")
}
WORDS_OUT = re.compile(
    r"\b(type|typing|typing_extensions|enum|Enum|IntEnum|StrEnum|Flag|IntFlag|Generic|Protocol|ABC|ABCMeta|namedtuple"
    r"|NamedTuple|TypedDict|TYPE_CHECKING|abstractmethod)\b|dataclass|overload|contextmanager"
)
DUNDERS_IN = {"__init__", "__eq__", "__repr__", "__str__", "__len__", "__all__", "__version__", "__name__"}


def files():
    return sorted(path for path in PACKAGE.rglob("*") if path.is_file() and "__pycache__" not in path.parts)


def drawn_from(tree):
    return [node.module for node in ast.walk(tree) if isinstance(node, ast.ImportFrom)]


def imported(tree):
    return [alias.asname or alias.name for node in ast.walk(tree) if isinstance(node, ast.ImportFrom) for alias in node.names]


def bound_at_top(tree):
    names = imported(tree) + [node.name for node in tree.body if isinstance(node, (ast.FunctionDef, ast.ClassDef))]
    return names + [target.id for node in tree.body if isinstance(node, ast.Assign) for target in node.targets]


def bound_in_defs(tree):
    """The parameters and locals of all defs, those of comprehensions, too."""
    names = [node.arg for node in ast.walk(tree) if isinstance(node, ast.arg)]
    for top in tree.body:
        if isinstance(top, (ast.FunctionDef, ast.ClassDef)):
            names.extend(node.id for node in ast.walk(top) if isinstance(node, ast.Name) and isinstance(node.ctx, ast.Store))
    return names


def defined_at(module):
    tree = ast.parse((PACKAGE / (module.split(".")[1] + ".py")).read_text(encoding="ascii"))
    return set(bound_at_top(tree)) - set(imported(tree))


class Language(unittest.TestCase):
    def setUp(self):
        self.trees = {path: ast.parse(path.read_text(encoding="ascii")) for path in files()}

    def nodes(self):
        for path, tree in self.trees.items():
            for node in ast.walk(tree):
                yield f"{path.name}:{getattr(node, 'lineno', 0)}", path, node

    def test_files(self):
        names = {path.name for path in files()}
        modules = ["errors", "values", "runs", "words", "forms", "letting", "joining", "cores", "making", "holding",
                   "meeting", "changing", "reading", "valuetexts", "formtexts", "books", "desk"]
        self.assertTrue({"__init__.py"} | {module + ".py" for module in modules} <= names)
        for path in files():
            self.assertRegex(path.name, r"^[a-z_][a-z0-9_]*\.py$")

    def test_signs_and_sizes(self):
        for path in files():
            rows = path.read_bytes().decode("ascii").split("\n")
            self.assertLessEqual(len(rows), 401, path.name)
            for place, row in enumerate(rows, start=1):
                self.assertLessEqual(len(row), 120, f"{path.name}:{place}")
                self.assertTrue(all(" " <= sign <= "~" for sign in row), f"{path.name}:{place}")
                self.assertIsNone(WORDS_OUT.search(row), f"{path.name}:{place}")
        for where, _, node in self.nodes():
            if isinstance(node, ast.FunctionDef):
                self.assertLessEqual(node.end_lineno - node.lineno + 1, 40, where)

    def test_statements_and_expressions(self):
        for where, _, node in self.nodes():
            if isinstance(node, ast.stmt):
                self.assertIsInstance(node, STATEMENTS, where)
            self.assertNotIsInstance(node, EXPRESSIONS_OUT, where)
            if isinstance(node, ast.Assign):
                self.assertEqual(len(node.targets), 1, where)
            if isinstance(node, (ast.For, ast.While)):
                self.assertFalse(node.orelse, where)
            if isinstance(node, ast.Try):
                self.assertFalse(node.finalbody, where)
            if isinstance(node, ast.ListComp):
                self.assertTrue(len(node.generators) == 1 and len(node.generators[0].ifs) <= 1, where)
            if isinstance(node, ast.Constant):
                self.assertNotIsInstance(node.value, (float, bytes, complex), where)
                self.assertFalse(isinstance(node.value, str) and "%" in node.value, where)
            if isinstance(node, (ast.FunctionDef, ast.ClassDef)):
                self.assertFalse(node.decorator_list, where)
            self.assertNotIsInstance(node, (ast.Div, ast.MatMult), where)
            if isinstance(node, ast.Compare) and any(isinstance(op, (ast.Is, ast.IsNot)) for op in node.ops):
                sides = [node.left] + node.comparators
                self.assertTrue(any(isinstance(side, ast.Constant) for side in sides), where)

    def test_names(self):
        own = set(dir(builtins))
        for where, _, node in self.nodes():
            if isinstance(node, ast.Name):
                self.assertTrue(node.id in BUILTINS_IN or node.id not in own, f"{where} {node.id}")
                self.assertTrue(isinstance(node.ctx, ast.Load) or node.id not in own, f"{where} {node.id}")
            for name in (getattr(node, "id", ""), getattr(node, "attr", ""), getattr(node, "arg", "") or ""):
                if isinstance(name, str) and name.startswith("_"):
                    self.assertIn(name, DUNDERS_IN, where)
            if isinstance(node, ast.arg):
                self.assertNotIn(node.arg, own, where)
            if isinstance(node, ast.Attribute) and node.attr in PYTHON_S_OWN_METHODS:
                self.assertIn(node.attr, METHODS_IN | {"add", "discard", "title"}, where)

    def test_each_name_has_one_meaning(self):
        for path, tree in self.trees.items():
            top = bound_at_top(tree)
            self.assertEqual(len(top), len(set(top)), path.name)
            self.assertFalse(set(top) & set(bound_in_defs(tree)), path.name)

    def test_imports_are_used_and_come_from_where_they_are_defined(self):
        for path, tree in self.trees.items():
            used = {node.id for node in ast.walk(tree) if isinstance(node, ast.Name)}
            self.assertLessEqual(set(imported(tree)), used, path.name)
            for node in ast.walk(tree):
                if isinstance(node, ast.ImportFrom) and node.module != "__future__":
                    self.assertLessEqual({alias.name for alias in node.names}, defined_at(node.module), path.name)

    def test_calls_that_must_be_walked_are_not_kept(self):
        for where, _, node in self.nodes():
            if isinstance(node, (ast.Assign, ast.Return)) and isinstance(node.value, ast.Call):
                call = node.value.func
                name = call.id if isinstance(call, ast.Name) else call.attr
                self.assertNotIn(name, {"zip", "enumerate", "reversed", "range", "items", "keys", "values", "set"}, where)

    def test_imports(self):
        for where, path, node in self.nodes():
            if isinstance(node, ast.Import):
                self.assertEqual(path.name, "__main__.py", where)
            if isinstance(node, ast.ImportFrom):
                self.assertEqual(node.level, 0, where)
                self.assertTrue(node.module == "__future__" or node.module.startswith("leastform."), where)
                self.assertNotIn("*", [alias.name for alias in node.names], where)

    def test_no_two_files_draw_from_one_another(self):
        draws = {"leastform." + path.stem: drawn_from(tree) for path, tree in self.trees.items()}
        settled = set()
        while True:
            ready = {name for name in draws if name not in settled and all(
                other in settled for other in draws[name] if other in draws)}
            if not ready:
                break
            settled |= ready
        self.assertEqual(settled, set(draws))

    def test_functions_and_classes(self):
        methods, values = set(), set()
        for where, path, node in self.nodes():
            if isinstance(node, (ast.FunctionDef, ast.Lambda)):
                given = node.args
                self.assertFalse(given.vararg or given.kwarg or given.kwonlyargs or given.posonlyargs, where)
            if isinstance(node, ast.ClassDef):
                self.assertIn(node, self.trees[path].body, where)
                self.assertLessEqual(len(node.bases), 1, where)
                self.assertTrue(all(isinstance(inner, (ast.FunctionDef, ast.Pass)) for inner in node.body), where)
                names = [inner.name for inner in node.body if isinstance(inner, ast.FunctionDef)]
                self.assertEqual(len(names), len(set(names)), where)
                self.assertFalse(set(names) & (PYTHON_S_OWN_METHODS - METHODS_IN - {"add", "discard"}), where)
                methods |= set(names)
            if isinstance(node, ast.Attribute) and isinstance(node.ctx, ast.Store):
                self.assertNotIn(node.attr, PYTHON_S_OWN_METHODS, where)
                values.add(node.attr)
        self.assertFalse(methods & values)

    def test_texts_and_numbers(self):
        for where, _, node in self.nodes():
            if isinstance(node, ast.FormattedValue):
                self.assertIsInstance(node.value, ast.Name, where)
                self.assertIsNone(node.format_spec, where)
            if isinstance(node, ast.BinOp) and isinstance(node.op, ast.Pow):
                self.assertIsInstance(node.right, ast.Constant, where)

    def test_errors(self):
        own = defined_at("leastform.errors")
        for where, _, node in self.nodes():
            if isinstance(node, ast.Raise):
                self.assertIn(node.exc.func.id, own, where)
            if isinstance(node, ast.Try):
                for handler in node.handlers:
                    self.assertIn(handler.type.id, own | {"KeyError", "ZeroDivisionError", "StopIteration", "ValueError"}, where)
                    if handler.type.id == "ValueError":
                        self.assertEqual(len(node.body), 1, where)
                        self.assertIn(node.body[0].value.func.id, {"int", "str"}, where)

    def test_python_s_own_as_they_are_called(self):
        keywords = {"sorted": {"key", "reverse"}, "min": {"key", "default"}, "max": {"key", "default"}, "sum": {"start"},
                    "enumerate": {"start"}, "zip": {"strict"}}
        for where, path, node in self.nodes():
            if isinstance(node, ast.Call):
                name = node.func.id if isinstance(node.func, ast.Name) else ""
                self.assertLessEqual({word.arg for word in node.keywords}, keywords.get(name, set()), where)
                if name == "isinstance":
                    self.assertIn(node.args[1].id, {"int", "str", "bool", "list", "tuple", "dict"}, where)
            for inner in ast.iter_child_nodes(node):
                if isinstance(inner, ast.Call) and isinstance(inner.func, ast.Name) and inner.func.id == "set":
                    walked = isinstance(node, ast.Call) and isinstance(node.func, ast.Name) and node.func.id in ("sorted", "len")
                    self.assertTrue(walked or isinstance(node, (ast.Compare, ast.BinOp)), where)
            if isinstance(node, ast.Name) and isinstance(node.ctx, ast.Load) and node.id in BUILTINS_IN - {"True", "False", "None"}:
                self.assertIn(node.id, self.called(path), where)

    def called(self, path):
        """Python's own names that a file calls, names beside isinstance, and those that errors stand under."""
        found = {"ValueError"}
        for node in ast.walk(self.trees[path]):
            if isinstance(node, ast.Call):
                found |= {inner.id for inner in [node.func] + node.args[1:] if isinstance(inner, ast.Name)}
        return found

    def test_what_a_loop_walks_is_not_changed_in_it(self):
        for where, _, node in self.nodes():
            if isinstance(node, ast.For):
                walked = {inner.id for inner in [node.iter] if isinstance(inner, ast.Name)}
                for inner in ast.walk(node):
                    if isinstance(inner, ast.Call) and isinstance(inner.func, ast.Attribute) and isinstance(inner.func.value, ast.Name):
                        if inner.func.attr in {"append", "clear", "extend", "insert", "pop", "remove", "reverse", "setdefault", "update"}:
                            self.assertNotIn(inner.func.value.id, walked, where)
                    if isinstance(inner, ast.Subscript) and isinstance(inner.ctx, ast.Store) and isinstance(inner.value, ast.Name):
                        self.assertNotIn(inner.value.id, walked, where)


if __name__ == "__main__":
    unittest.main()
