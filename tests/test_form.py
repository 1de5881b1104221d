"""The form of the package's files, as far as it can be seen without reading: sizes, signs, words, kinds of rows."""

import ast
import builtins
import re
import unittest
from pathlib import Path

PACKAGE = Path(__file__).resolve().parent.parent / "lightshares"
FILES = sorted(path for path in PACKAGE.rglob("*") if path.is_file() and "__pycache__" not in path.parts)

OWN_NAMES = set(
    "len range enumerate zip min max sum abs sorted reversed int str bool bytes list tuple dict set frozenset "
    "isinstance ord repr any all divmod Exception ValueError TypeError KeyError IndexError LookupError "
    "ZeroDivisionError ArithmeticError OverflowError RuntimeError NotImplementedError AttributeError "
    "StopIteration".split()
)
UNDERSCORED = {"__init__", "__eq__", "__repr__", "__str__", "__len__"}
WORDS = re.compile(
    r"\b(type|typing|typing_extensions|enum|Enum|IntEnum|StrEnum|Flag|IntFlag|Generic|Protocol|ABC|ABCMeta"
    r"|namedtuple|NamedTuple|TypedDict|TYPE_CHECKING|abstractmethod)\b|dataclass|overload|contextmanager"
)
OUT = (
    ast.With, ast.Match, ast.Global, ast.Nonlocal, ast.Yield, ast.YieldFrom, ast.Await, ast.AsyncFunctionDef,
    ast.AsyncFor, ast.AsyncWith, ast.GeneratorExp, ast.NamedExpr, ast.Div, ast.MatMult, ast.Import,
)


class Files(unittest.TestCase):
    def test_plain_files_alone(self):
        self.assertIn("__init__.py", [path.name for path in FILES])
        for path in FILES:
            self.assertRegex(path.name, r"^[a-z0-9_]+\.py$")

    def test_sizes_and_signs(self):
        for path in FILES:
            text = path.read_bytes().decode("ascii")
            self.assertRegex(text, r"^[\n -~]*$", path)
            self.assertLessEqual(len(text.splitlines()), 400, path)
            self.assertLessEqual(max(len(row) for row in text.splitlines()), 120, path)

    def test_words_that_are_not_used(self):
        for path in FILES:
            self.assertIsNone(WORDS.search(path.read_text()), path)


class Rows(unittest.TestCase):
    def nodes(self):
        for path in FILES:
            for node in ast.walk(ast.parse(path.read_text())):
                yield f"{path.name}:{getattr(node, 'lineno', 0)}", node

    def test_kinds_of_rows(self):
        for where, node in self.nodes():
            self.assertNotIsInstance(node, OUT, where)
            if isinstance(node, ast.Constant):
                self.assertNotIsInstance(node.value, (float, complex), where)
                self.assertNotIn("%", str(node.value), where)
            if isinstance(node, (ast.For, ast.While)):
                self.assertEqual(node.orelse, [], where)

    def test_imports_are_of_the_package_alone(self):
        for where, node in self.nodes():
            if isinstance(node, ast.ImportFrom):
                self.assertEqual(node.level, 0, where)
                self.assertTrue((PACKAGE.parent / (node.module.replace(".", "/") + ".py")).is_file(), where)
                self.assertNotIn("*", [name.name for name in node.names], where)

    def test_defs_and_classes(self):
        for where, node in self.nodes():
            if isinstance(node, (ast.FunctionDef, ast.ClassDef)):
                self.assertEqual(node.decorator_list, [], where)
                self.assertTrue(node.name in UNDERSCORED or not node.name.startswith("_"), where)
            if isinstance(node, ast.FunctionDef):
                self.assertLessEqual(node.end_lineno - node.lineno + 1, 40, where)
                self.assertIsNone(node.args.vararg, where)
                self.assertIsNone(node.args.kwarg, where)
            if isinstance(node, ast.ClassDef):
                self.assertLessEqual(len(node.bases), 1, where)
                for row in node.body:
                    self.assertIsInstance(row, (ast.FunctionDef, ast.Expr, ast.Pass), where)

    def test_names(self):
        own = set(dir(builtins))
        for where, node in self.nodes():
            if isinstance(node, ast.Name):
                self.assertFalse(node.id.startswith("_"), where)
                if node.id in own:
                    self.assertIn(node.id, OWN_NAMES, where)
                    self.assertIsInstance(node.ctx, ast.Load, where)
            if isinstance(node, ast.arg):
                self.assertNotIn(node.arg, own, where)

    def test_is_stands_beside_none_and_truths_alone(self):
        for where, node in self.nodes():
            if isinstance(node, ast.Compare) and any(isinstance(sign, (ast.Is, ast.IsNot)) for sign in node.ops):
                self.assertIsInstance(node.comparators[0], ast.Constant, where)

    def test_no_two_files_draw_from_one_another(self):
        drawn = {}
        for path in FILES:
            rows = [node for node in ast.walk(ast.parse(path.read_text())) if isinstance(node, ast.ImportFrom)]
            drawn[path.stem] = {row.module.rpartition(".")[2] for row in rows}
        while drawn:
            ready = [name for name, needs in drawn.items() if not needs & set(drawn)]
            self.assertNotEqual(ready, [], drawn)
            for name in ready:
                del drawn[name]

    def test_each_drawn_name_is_used_and_defined_there(self):
        for path in FILES:
            tree = ast.parse(path.read_text())
            used = {node.id for node in ast.walk(tree) if isinstance(node, ast.Name)}
            for row in tree.body:
                if isinstance(row, ast.ImportFrom):
                    names = {name.name for name in row.names}
                    self.assertLessEqual(names, used, path)
                    self.assertLessEqual(names, self.tops(PACKAGE / f"{row.module.rpartition('.')[2]}.py"), path)

    def tops(self, path):
        """The names that a file's own rows bind at its top, but not those that it draws in."""
        names = set()
        for row in ast.parse(path.read_text()).body:
            if isinstance(row, (ast.FunctionDef, ast.ClassDef)):
                names.add(row.name)
            if isinstance(row, ast.Assign):
                names |= {target.id for target in row.targets}
        return names

    def test_no_local_is_called_like_a_class_or_an_import(self):
        for path in FILES:
            tree = ast.parse(path.read_text())
            taken = {name.name for row in tree.body if isinstance(row, ast.ImportFrom) for name in row.names}
            taken |= {row.name for row in tree.body if isinstance(row, ast.ClassDef)}
            for node in ast.walk(tree):
                if isinstance(node, ast.Name) and isinstance(node.ctx, ast.Store):
                    self.assertNotIn(node.id, taken, path)
                if isinstance(node, ast.arg):
                    self.assertNotIn(node.arg, taken, path)

    def test_texts_in_braces_and_powers(self):
        for path in FILES:
            text = path.read_text()
            for node in ast.walk(ast.parse(text)):
                where = f"{path.name}:{getattr(node, 'lineno', 0)}"
                if isinstance(node, ast.FormattedValue):
                    self.assertIsNone(node.format_spec, where)
                    inner = [one for one in ast.walk(node.value) if isinstance(one, ast.Constant)]
                    self.assertFalse([one for one in inner if isinstance(one.value, str)], where)
                if isinstance(node, ast.BinOp) and isinstance(node.op, ast.Pow):
                    self.assertIsInstance(node.right, ast.Constant, where)
                    self.assertLessEqual(node.right.value, 64, where)

    def test_no_name_is_a_method_here_and_a_value_there(self):
        methods, values = set(), set()
        for where, node in self.nodes():
            if isinstance(node, ast.ClassDef):
                methods |= {row.name for row in node.body if isinstance(row, ast.FunctionDef)}
            if isinstance(node, ast.Attribute) and isinstance(node.ctx, ast.Store):
                values.add(node.attr)
        self.assertEqual(methods & values, set())


if __name__ == "__main__":
    unittest.main()
