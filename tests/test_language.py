"""The form of the package's own files, as far as a look at them can tell: LANGUAGE.md, rule by rule."""

import ast
import builtins
import pathlib
import re
import unittest

PACKAGE = pathlib.Path(__file__).resolve().parent.parent / "measuretext"
OWN_NAMES = (
    "len range enumerate zip min max sum abs sorted reversed int str bool list tuple dict set frozenset isinstance "
    "ord repr any all divmod Exception ValueError TypeError KeyError IndexError LookupError ZeroDivisionError "
    "ArithmeticError OverflowError RuntimeError NotImplementedError AttributeError StopIteration"
).split()
METHODS = (
    "append clear copy count endswith extend find get index insert isalnum isalpha isdigit islower isspace isupper "
    "items join keys ljust lower lstrip partition pop remove replace reverse rfind rjust rpartition rsplit rstrip "
    "setdefault split splitlines startswith strip update upper values zfill bit_length"
).split()
WORDS_NOWHERE = (
    r"\b(type|typing|typing_extensions|enum|Enum|IntEnum|StrEnum|Flag|IntFlag|Generic|Protocol|ABC|ABCMeta|namedtuple"
    r"|NamedTuple|TypedDict|TYPE_CHECKING|abstractmethod)\b|dataclass|overload|contextmanager"
)
NAMES_NOWHERE = "register mro elements open input version_info with_traceback add_note format format_map".split()
VALUES_NOT_CALLED = (
    "items keys values pop update append clear extend insert remove reverse setdefault sort args encode format "
    "numerator denominator real imag"
).split()
NODES = (
    ast.Module, ast.FunctionDef, ast.ClassDef, ast.Return, ast.Assign, ast.AugAssign, ast.For, ast.While, ast.If,
    ast.Raise, ast.Try, ast.ExceptHandler, ast.ImportFrom, ast.alias, ast.Expr, ast.Pass, ast.Break, ast.Continue,
    ast.arguments, ast.arg, ast.BoolOp, ast.And, ast.Or, ast.BinOp, ast.Add, ast.Sub, ast.Mult, ast.FloorDiv, ast.Mod,
    ast.UnaryOp, ast.Not, ast.USub, ast.Compare, ast.Eq, ast.NotEq, ast.Lt, ast.LtE, ast.Gt, ast.GtE, ast.Is,
    ast.IsNot, ast.In, ast.NotIn, ast.IfExp, ast.Dict, ast.List, ast.Tuple, ast.ListComp, ast.comprehension, ast.Call,
    ast.keyword, ast.Constant, ast.Attribute, ast.Subscript, ast.Slice, ast.Name, ast.Load, ast.Store, ast.Lambda,
)


class Form(unittest.TestCase):
    def setUp(self):
        self.files = sorted(PACKAGE.glob("*.py"))
        self.trees = {path.name: ast.parse(path.read_text()) for path in self.files}

    def walked(self):
        for name, tree in self.trees.items():
            for node in ast.walk(tree):
                yield f"{name}:{getattr(node, 'lineno', 0)}", node

    def test_files_and_sizes(self):
        for path in PACKAGE.iterdir():
            if path.name != "__pycache__":
                self.assertRegex(path.name, r"^[a-z_][a-z0-9_]*\.py$")
        for path in self.files:
            text = path.read_text()
            lines = text.split("\n")
            self.assertLessEqual(len(lines), 400, path.name)
            self.assertLessEqual(max(len(line) for line in lines), 120, path.name)
            self.assertRegex(text, r"^[ -~\n]*$", path.name)
            self.assertIsNone(re.search(WORDS_NOWHERE, text), path.name)
        for where, node in self.walked():
            if isinstance(node, ast.FunctionDef):
                self.assertLessEqual(node.end_lineno - node.lineno + 1, 40, where)

    def test_statements_and_expressions(self):
        for where, node in self.walked():
            self.assertIsInstance(node, NODES, where)
            if isinstance(node, ast.Assign):
                self.assertEqual(len(node.targets), 1, where)
            if isinstance(node, (ast.FunctionDef, ast.ClassDef)):
                self.assertEqual(node.decorator_list, [], where)
            if isinstance(node, (ast.For, ast.While)):
                self.assertEqual(node.orelse, [], where)
            if isinstance(node, ast.Constant):
                self.assertIn(node.value.__class__, (int, str, bool, None.__class__), where)
                self.assertNotIn("%", str(node.value), where)

    def test_imports(self):
        drawn = {}
        for name, tree in self.trees.items():
            drawn[name] = []
            for node in tree.body:
                if isinstance(node, ast.ImportFrom):
                    self.assertEqual(node.level, 0, name)
                    self.assertTrue(node.module.startswith("measuretext."), name)
                    drawn[name].append(node.module.split(".")[1] + ".py")
                    defined = [item.name for item in self.trees[drawn[name][-1]].body if hasattr(item, "name")]
                    defined += [item.targets[0].id for item in self.trees[drawn[name][-1]].body
                                if isinstance(item, ast.Assign)]
                    for alias in node.names:
                        self.assertIn(alias.name, defined, name)
        done = []
        while len(done) < len(drawn):
            free = [name for name in drawn if name not in done and all(other in done for other in drawn[name])]
            self.assertNotEqual(free, [], "files that draw from one another")
            done.extend(free)

    def test_names(self):
        pythons = dir(builtins)
        for where, node in self.walked():
            if isinstance(node, ast.Name) and isinstance(node.ctx, ast.Load) and node.id in pythons:
                self.assertIn(node.id, OWN_NAMES, where)
            bound = []
            if isinstance(node, ast.Name) and isinstance(node.ctx, ast.Store):
                bound = [node.id]
            if isinstance(node, (ast.FunctionDef, ast.ClassDef)):
                bound = [node.name]
            if isinstance(node, ast.arg):
                bound = [node.arg]
            for name in bound:
                self.assertNotIn(name, pythons, where)
                self.assertNotIn(name, NAMES_NOWHERE, where)
                self.assertRegex(name, r"^([A-Za-z][A-Za-z0-9_]*|__init__)$", where)

    def test_methods_and_values(self):
        methods, values = set(), set()
        for where, node in self.walked():
            if isinstance(node, ast.ClassDef):
                methods.update(item.name for item in node.body if item.name != "__init__")
            if isinstance(node, ast.Attribute):
                self.assertNotIn(node.attr, NAMES_NOWHERE, where)
                if isinstance(node.ctx, ast.Store):
                    values.add(node.attr)
                    self.assertNotIn(node.attr, VALUES_NOT_CALLED, where)
        self.assertEqual(methods & values, set())
        for where, node in self.walked():
            if isinstance(node, ast.Call) and isinstance(node.func, ast.Attribute):
                self.assertIn(node.func.attr, METHODS + sorted(methods), where)

    def test_lists_and_dicts_at_the_top_hold_none(self):
        for name, tree in self.trees.items():
            for node in tree.body:
                if isinstance(node, ast.Assign) and isinstance(node.value, (ast.List, ast.Dict)):
                    within = [other for other in ast.walk(node.value) if other is not node.value]
                    self.assertFalse([other for other in within if isinstance(other, (ast.List, ast.Dict))], name)

    def test_is_stands_beside_none_and_truths(self):
        for where, node in self.walked():
            if isinstance(node, ast.Compare) and isinstance(node.ops[0], (ast.Is, ast.IsNot)):
                self.assertIsInstance(node.comparators[0], ast.Constant, where)

    def test_walked_at_once(self):
        for where, node in self.walked():
            on_the_spot = []
            if isinstance(node, (ast.For, ast.comprehension)):
                on_the_spot = [node.iter]
            if isinstance(node, ast.Call) and isinstance(node.func, ast.Name) and node.func.id in ("list", "tuple"):
                on_the_spot = node.args
            for other in on_the_spot:
                other.walked = True
        for where, node in self.walked():
            if isinstance(node, ast.Call) and isinstance(node.func, ast.Name):
                if node.func.id in ("zip", "enumerate", "reversed", "range"):
                    self.assertTrue(getattr(node, "walked", False), where)

    def test_errors(self):
        for where, node in self.walked():
            if isinstance(node, ast.ExceptHandler):
                self.assertEqual(node.type.id, "Fault", where)
            if isinstance(node, ast.Raise):
                self.assertIsInstance(node.exc, ast.Call, where)

    def test_locals_are_not_called_like_imports_or_classes(self):
        for name, tree in self.trees.items():
            tops = [alias.name for node in tree.body if isinstance(node, ast.ImportFrom) for alias in node.names]
            tops += [node.name for node in tree.body if isinstance(node, ast.ClassDef)]
            once = tops + [node.name for node in tree.body if isinstance(node, ast.FunctionDef)]
            once += [node.targets[0].id for node in tree.body if isinstance(node, ast.Assign)]
            self.assertEqual(len(once), len(set(once)), name)
            for function in ast.walk(tree):
                if isinstance(function, ast.FunctionDef):
                    bound = [node.arg for node in ast.walk(function) if isinstance(node, ast.arg)]
                    bound += [node.id for node in ast.walk(function)
                              if isinstance(node, ast.Name) and isinstance(node.ctx, ast.Store)]
                    self.assertEqual(set(bound) & set(tops), set(), (name, function.name))


if __name__ == "__main__":
    unittest.main()
