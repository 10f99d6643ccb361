"""The package's own files keep to the plain part of the language, as far as a look at their form can tell."""

import ast
import re
import unittest
from pathlib import Path

PACKAGE = Path(__file__).resolve().parent.parent / "gatewhole"
FILES = sorted(PACKAGE.rglob("*.py"))
BUILT_IN = """len range enumerate zip min max sum abs sorted reversed int str bool list tuple dict set isinstance
    ord repr any all divmod Exception ValueError TypeError KeyError IndexError LookupError ZeroDivisionError
    ArithmeticError OverflowError RuntimeError NotImplementedError StopIteration""".split()
OUT = """type typing typing_extensions enum Enum IntEnum StrEnum Flag IntFlag Generic Protocol ABC ABCMeta
    namedtuple NamedTuple TypedDict TYPE_CHECKING abstractmethod""".split()
NODES_OUT = (ast.With, ast.Match, ast.Delete, ast.Global, ast.Nonlocal, ast.Assert, ast.Yield, ast.YieldFrom,
             ast.AsyncFunctionDef, ast.Await, ast.Import, ast.SetComp, ast.DictComp, ast.GeneratorExp,
             ast.NamedExpr, ast.Starred, ast.Div, ast.AnnAssign)


def tree_of(file):
    return ast.parse(file.read_text(encoding="utf-8"))


def bound_names(tree):
    names = set()
    for node in ast.walk(tree):
        if isinstance(node, (ast.FunctionDef, ast.ClassDef)):
            names.add(node.name)
        elif isinstance(node, ast.arg):
            names.add(node.arg)
        elif isinstance(node, ast.alias):
            names.add(node.asname or node.name)
        elif isinstance(node, ast.ExceptHandler) and node.name:
            names.add(node.name)
        elif isinstance(node, ast.Name) and isinstance(node.ctx, ast.Store):
            names.add(node.id)
    return names


class Form(unittest.TestCase):
    def test_files_are_python_alone(self):
        self.assertIn(PACKAGE / "__init__.py", FILES)
        for path in PACKAGE.rglob("*"):
            if path.is_file() and "__pycache__" not in path.parts:
                self.assertEqual(path.suffix, ".py", path)

    def test_signs_and_sizes(self):
        for file in FILES:
            text = file.read_text(encoding="utf-8")
            self.assertTrue(all(sign == "\n" or " " <= sign <= "~" for sign in text), file)
            self.assertLessEqual(len(text.splitlines()), 400, file)
            self.assertTrue(all(len(line) <= 120 for line in text.splitlines()), file)
            for node in ast.walk(ast.parse(text)):
                if isinstance(node, ast.FunctionDef):
                    self.assertLessEqual(node.end_lineno - node.lineno + 1, 40, (file, node.name))

    def test_words_that_stand_nowhere(self):
        for file in FILES:
            text = file.read_text(encoding="utf-8")
            self.assertEqual([word for word in re.findall(r"\w+", text) if word in OUT], [], file)
            self.assertIsNone(re.search("dataclass|overload|contextmanager", text), file)

    def test_only_own_files_are_imported(self):
        for file in FILES:
            for node in ast.walk(tree_of(file)):
                if isinstance(node, ast.ImportFrom):
                    self.assertEqual(node.level, 0, file)
                    self.assertTrue(node.module.startswith("gatewhole."), (file, node.module))
                    self.assertNotIn("*", [alias.name for alias in node.names], file)

    def test_statements_and_expressions(self):
        for file in FILES:
            for node in ast.walk(tree_of(file)):
                self.assertNotIsInstance(node, NODES_OUT, (file, getattr(node, "lineno", None)))
                if isinstance(node, (ast.FunctionDef, ast.ClassDef)):
                    self.assertEqual(node.decorator_list, [], (file, node.name))
                if isinstance(node, (ast.For, ast.While)):
                    self.assertEqual(node.orelse, [], (file, node.lineno))
                if isinstance(node, ast.Constant):
                    self.assertNotIsInstance(node.value, (float, bytes, complex), (file, node.lineno))

    def test_names(self):
        for file in FILES:
            tree = tree_of(file)
            bound = bound_names(tree)
            self.assertEqual([name for name in sorted(bound) if name in BUILT_IN], [], file)
            self.assertEqual([name for name in sorted(bound) if name.startswith("_") and name != "__init__"], [], file)
            used = {node.id for node in ast.walk(tree) if isinstance(node, ast.Name)}
            self.assertEqual(sorted(used - bound - set(BUILT_IN)), [], file)


if __name__ == "__main__":
    unittest.main()
