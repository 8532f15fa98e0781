"""The package keeps to the small part of Python that it is written in, as far as a walk of its files can tell."""

import ast
import builtins
import pathlib
import re
import unittest

PACKAGE = pathlib.Path(__file__).resolve().parent.parent / "sharetrail"
FILES = sorted(PACKAGE.glob("*.py"))

BUILTINS = set(
    "len range enumerate zip min max sum abs sorted reversed int str bool bytes list tuple dict set isinstance ord repr"
    " any all divmod Exception ValueError TypeError KeyError IndexError LookupError ZeroDivisionError ArithmeticError"
    " OverflowError RuntimeError NotImplementedError AttributeError StopIteration".split()
)
METHODS = set(
    "append clear copy count endswith extend find get index insert isalnum isalpha isdigit islower isspace isupper items"
    " join keys ljust lower lstrip partition pop remove replace reverse rfind rjust rpartition rsplit rstrip setdefault"
    " split splitlines startswith strip update upper values zfill bit_length isascii add discard sort __init__".split()
)
WORDS = re.compile(
    r"\b(type|typing|typing_extensions|enum|Enum|IntEnum|StrEnum|Flag|IntFlag|Generic|Protocol|ABC|ABCMeta|namedtuple"
    r"|NamedTuple|TypedDict|TYPE_CHECKING|abstractmethod)\b|dataclass|overload|contextmanager"
)
NAMES = set(
    "register mro elements open input version_info with_traceback add_note attrgetter breakpoint builtins compile"
    " copyright credits delattr dir eval exec exit gc getattr globals hasattr help id importlib license locals"
    " methodcaller os quit setattr super vars sys format format_map".split()
)
NODES = (
    ast.GeneratorExp, ast.NamedExpr, ast.Div, ast.With, ast.Match, ast.Global, ast.Nonlocal, ast.Yield, ast.YieldFrom,
    ast.AsyncFunctionDef, ast.AsyncFor, ast.AsyncWith, ast.Await, ast.Import, ast.MatMult, ast.TryStar,
)


def defined(tree):
    """The names that a file binds at its top by itself."""
    names = [row.name for row in tree.body if isinstance(row, (ast.FunctionDef, ast.ClassDef))]
    return names + [target.id for row in tree.body if isinstance(row, ast.Assign) for target in row.targets]


def nodes(*kinds):
    """All nodes of these kinds in the package, each with the place where it stands."""
    found = []
    for file in FILES:
        for node in ast.walk(ast.parse(file.read_text())):
            if isinstance(node, kinds):
                found.append((node, f"{file.name}:{getattr(node, 'lineno', 0)}"))
    return found


class Language(unittest.TestCase):
    def test_files(self):
        others = [path.name for path in PACKAGE.iterdir() if path not in FILES and path.name != "__pycache__"]
        self.assertEqual(others, [])
        self.assertIn("__init__.py", [file.name for file in FILES])

    def test_rows_and_signs(self):
        for file in FILES:
            text = file.read_text()
            self.assertRegex(text, r"\A[ -~\n]*\Z", file.name)
            self.assertLessEqual(len(text.splitlines()), 400, file.name)
            self.assertLessEqual(max(len(row) for row in text.splitlines()), 120, file.name)
            self.assertIsNone(WORDS.search(text), file.name)

    def test_defs(self):
        for node, where in nodes(ast.FunctionDef):
            self.assertLessEqual(node.end_lineno - node.lineno + 1, 40, where)
            self.assertEqual(node.decorator_list, [], where)
            self.assertEqual((node.args.vararg, node.args.kwarg, node.args.posonlyargs), (None, None, []), where)

    def test_classes(self):
        for node, where in nodes(ast.ClassDef):
            self.assertEqual((node.decorator_list, node.keywords), ([], []), where)
            self.assertLessEqual(len(node.bases), 1, where)
            for row in node.body:
                docstring = isinstance(row, ast.Expr) and isinstance(row.value, ast.Constant)
                self.assertTrue(docstring or isinstance(row, (ast.FunctionDef, ast.Pass)), where)

    def test_imports(self):
        tops = {f"sharetrail.{file.stem}": ast.parse(file.read_text()) for file in FILES}
        for node, where in nodes(ast.ImportFrom):
            self.assertEqual(node.level, 0, where)
            self.assertIn(node.module, tops, where)
            for name in node.names:
                self.assertIn(name.name, defined(tops[node.module]), where)

    def test_no_two_files_draw_from_one_another(self):
        drawn = {}
        for file in FILES:
            rows = [row for row in ast.parse(file.read_text()).body if isinstance(row, ast.ImportFrom)]
            drawn[f"sharetrail.{file.stem}"] = {row.module for row in rows}
        for module in drawn:
            reached, fresh = set(), set(drawn[module])
            while fresh:
                reached |= fresh
                fresh = set().union(*[drawn[other] for other in fresh]) - reached
            self.assertNotIn(module, reached)

    def test_locals_are_called_unlike_imports_and_classes(self):
        for file in FILES:
            tree = ast.parse(file.read_text())
            taken = {name.name for row in tree.body if isinstance(row, ast.ImportFrom) for name in row.names}
            taken |= {row.name for row in tree.body if isinstance(row, ast.ClassDef)}
            for node in ast.walk(tree):
                if isinstance(node, ast.Name) and isinstance(node.ctx, ast.Store):
                    self.assertNotIn(node.id, taken, f"{file.name}:{node.lineno}")
                if isinstance(node, ast.arg):
                    self.assertNotIn(node.arg, taken, f"{file.name}:{node.lineno}")

    def test_nothing_is_drawn_in_vain(self):
        for file in FILES:
            tree = ast.parse(file.read_text())
            used = {node.id for node in ast.walk(tree) if isinstance(node, ast.Name)}
            for row in tree.body:
                if isinstance(row, ast.ImportFrom):
                    self.assertLessEqual({name.name for name in row.names}, used, file.name)

    def test_each_name_once(self):
        for file in FILES:
            names = defined(ast.parse(file.read_text()))
            self.assertEqual(len(names), len(set(names)), file.name)

    def test_no_other_statements(self):
        self.assertEqual(nodes(*NODES), [])
        for node, where in nodes(ast.For, ast.While):
            self.assertEqual(node.orelse, [], where)

    def test_values(self):
        for node, where in nodes(ast.Constant):
            self.assertNotIsInstance(node.value, (float, complex), where)
            self.assertFalse(isinstance(node.value, str) and "\x25" in node.value, where)

    def test_names(self):
        for node, where in nodes(ast.Name):
            self.assertFalse(node.id.startswith("_") or node.id in NAMES, where)
            if hasattr(builtins, node.id):
                self.assertIn(node.id, BUILTINS, where)
                self.assertIsInstance(node.ctx, ast.Load, where)
        for node, where in nodes(ast.arg):
            self.assertFalse(hasattr(builtins, node.arg) or node.arg in NAMES or node.arg.startswith("_"), where)

    def test_methods(self):
        own = {node.name for node, where in nodes(ast.FunctionDef)}
        for node, where in nodes(ast.Call):
            if isinstance(node.func, ast.Attribute):
                self.assertIn(node.func.attr, METHODS | own, where)

    def test_no_name_is_a_method_and_a_value(self):
        methods, values = set(), set()
        for node, where in nodes(ast.ClassDef):
            methods |= {row.name for row in node.body if isinstance(row, ast.FunctionDef)}
        for node, where in nodes(ast.Attribute):
            if isinstance(node.ctx, ast.Store):
                values.add(node.attr)
        self.assertEqual(methods & values, set())
        for file in FILES:
            tree = ast.parse(file.read_text())
            called = {node.func for node in ast.walk(tree) if isinstance(node, ast.Call)}
            for node in ast.walk(tree):
                if isinstance(node, ast.Attribute) and node not in called:
                    self.assertIn(node.attr, values | {"__init__"}, f"{file.name}:{node.lineno}")

    def test_exponents_are_written(self):
        for node, where in nodes(ast.BinOp):
            if isinstance(node.op, ast.Pow):
                self.assertIsInstance(node.right, ast.Constant, where)
                self.assertIn(node.right.value, range(65), where)

    def test_a_set_is_straight_within_sorted_or_len(self):
        for file in FILES:
            tree = ast.parse(file.read_text())
            within = [node.args[0] for node in ast.walk(tree) if isinstance(node, ast.Call) and node.args
                      and isinstance(node.func, ast.Name) and node.func.id in ("sorted", "len")]
            for node in ast.walk(tree):
                if isinstance(node, ast.Call) and isinstance(node.func, ast.Name) and node.func.id == "set":
                    self.assertIn(node, within, f"{file.name}:{node.lineno}")
            self.assertFalse([node for node in ast.walk(tree) if isinstance(node, (ast.Set, ast.SetComp))], file.name)

    def test_is_beside_none_true_and_false_alone(self):
        for node, where in nodes(ast.Compare):
            if any(isinstance(sign, (ast.Is, ast.IsNot)) for sign in node.ops):
                sides = [node.left] + node.comparators
                values = [side.value for side in sides if isinstance(side, ast.Constant)]
                # 1 equals True, so no "in" here.
                self.assertTrue(any(value is None or isinstance(value, bool) for value in values), where)


if __name__ == "__main__":
    unittest.main()
