"""The package's own files keep to the plain part of the language, as far as a look at their form can tell."""

import ast
import builtins
import re
import unittest
from pathlib import Path

PACKAGE = Path(__file__).resolve().parent.parent / "gatewhole"
FILES = sorted(PACKAGE.rglob("*.py"))
BUILT_IN = """len range enumerate zip min max sum abs sorted reversed int str bool list tuple dict set isinstance
    ord repr any all divmod Exception ValueError TypeError KeyError IndexError LookupError ZeroDivisionError
    ArithmeticError OverflowError RuntimeError NotImplementedError StopIteration""".split()
OUT = """type typing typing_extensions enum Enum IntEnum StrEnum Flag IntFlag Generic Protocol ABC ABCMeta
    namedtuple NamedTuple TypedDict TYPE_CHECKING abstractmethod""".split()
METHODS = """append clear copy count endswith extend find get index insert isalnum isalpha isdigit islower isspace
    isupper items join keys ljust lower lstrip partition pop remove replace reverse rfind rjust rpartition rsplit
    rstrip setdefault split splitlines startswith strip update upper values zfill bit_length""".split()
NAMES_OUT = """register mro elements open input version_info with_traceback add_note attrgetter breakpoint builtins
    compile copyright credits delattr dir eval exec exit gc getattr globals hasattr help id importlib license locals
    methodcaller os quit setattr super vars sys format format_map args encode sort""".split()
NODES_OUT = (ast.With, ast.Match, ast.Delete, ast.Global, ast.Nonlocal, ast.Assert, ast.Yield, ast.YieldFrom,
             ast.AsyncFunctionDef, ast.Await, ast.Import, ast.SetComp, ast.DictComp, ast.GeneratorExp,
             ast.NamedExpr, ast.Starred, ast.Div, ast.AnnAssign, ast.Set, ast.Lambda)


def tree_of(file):
    return ast.parse(file.read_text(encoding="utf-8"))


def bound_names(tree):
    names = set()
    for node in ast.walk(tree):
        if isinstance(node, (ast.FunctionDef, ast.ClassDef)):
            names.add(node.name)
        elif isinstance(node, ast.arg):
            names.add(node.arg)
        elif isinstance(node, ast.alias):
            names.add(node.asname or node.name)
        elif isinstance(node, ast.ExceptHandler) and node.name:
            names.add(node.name)
        elif isinstance(node, ast.Name) and isinstance(node.ctx, ast.Store):
            names.add(node.id)
    return names


class Form(unittest.TestCase):
    def test_files_are_python_alone(self):
        self.assertIn(PACKAGE / "__init__.py", FILES)
        for path in PACKAGE.rglob("*"):
            if path.is_file() and "__pycache__" not in path.parts:
                self.assertEqual(path.suffix, ".py", path)

    def test_signs_and_sizes(self):
        for file in FILES:
            text = file.read_text(encoding="utf-8")
            self.assertTrue(all(sign == "\n" or " " <= sign <= "~" for sign in text), file)
            self.assertLessEqual(len(text.splitlines()), 400, file)
            self.assertTrue(all(len(line) <= 120 for line in text.splitlines()), file)
            for node in ast.walk(ast.parse(text)):
                if isinstance(node, ast.FunctionDef):
                    self.assertLessEqual(node.end_lineno - node.lineno + 1, 40, (file, node.name))

    def test_words_that_stand_nowhere(self):
        for file in FILES:
            text = file.read_text(encoding="utf-8")
            self.assertEqual([word for word in re.findall(r"\w+", text) if word in OUT], [], file)
            self.assertIsNone(re.search("dataclass|overload|contextmanager", text), file)

    def test_only_own_files_are_imported(self):
        for file in FILES:
            for node in ast.walk(tree_of(file)):
                if isinstance(node, ast.ImportFrom):
                    self.assertEqual(node.level, 0, file)
                    self.assertTrue(node.module.startswith("gatewhole."), (file, node.module))
                    self.assertNotIn("*", [alias.name for alias in node.names], file)

    def test_statements_and_expressions(self):
        for file in FILES:
            for node in ast.walk(tree_of(file)):
                self.assertNotIsInstance(node, NODES_OUT, (file, getattr(node, "lineno", None)))
                if isinstance(node, (ast.FunctionDef, ast.ClassDef)):
                    self.assertEqual(node.decorator_list, [], (file, node.name))
                if isinstance(node, (ast.For, ast.While)):
                    self.assertEqual(node.orelse, [], (file, node.lineno))
                if isinstance(node, ast.Constant):
                    self.assertNotIsInstance(node.value, (float, bytes, complex), (file, node.lineno))

    def test_names(self):
        for file in FILES:
            tree = tree_of(file)
            bound = bound_names(tree)
            self.assertEqual([name for name in sorted(bound) if name in BUILT_IN], [], file)
            self.assertEqual([name for name in sorted(bound) if name.startswith("_") and name != "__init__"], [], file)
            used = {node.id for node in ast.walk(tree) if isinstance(node, ast.Name)}
            self.assertEqual(sorted(used - bound - set(BUILT_IN)), [], file)

    def test_small_forms(self):
        for file in FILES:
            for node in ast.walk(tree_of(file)):
                where = (file, getattr(node, "lineno", None))
                if isinstance(node, ast.Assign):
                    self.assertEqual(len(node.targets), 1, where)
                if isinstance(node, ast.ListComp):
                    self.assertEqual(len(node.generators), 1, where)
                    self.assertLessEqual(len(node.generators[0].ifs), 1, where)
                if isinstance(node, ast.Compare) and any(isinstance(sign, (ast.Is, ast.IsNot)) for sign in node.ops):
                    self.assertTrue(all(isinstance(side, ast.Constant) for side in node.comparators), where)
                if isinstance(node, ast.Constant) and isinstance(node.value, str):
                    self.assertNotIn("%", node.value, where)
                if isinstance(node, ast.FormattedValue):
                    self.assertIsInstance(node.value, ast.Name, where)
                if isinstance(node, ast.Try):
                    self.assertEqual(node.finalbody, [], where)
                if isinstance(node, ast.BinOp) and isinstance(node.op, ast.Pow):
                    self.assertIsInstance(node.right, ast.Constant, where)

    def test_top_of_a_file(self):
        for file in FILES:
            for place, node in enumerate(tree_of(file).body):
                if place == 0:
                    self.assertIsInstance(node, ast.Expr, file)
                else:
                    self.assertIsInstance(node, (ast.ImportFrom, ast.FunctionDef, ast.ClassDef, ast.Assign), file)
                if isinstance(node, ast.Assign):
                    ast.literal_eval(node.value)

    def test_bodies_of_classes_hold_methods_alone(self):
        for file in FILES:
            for node in ast.walk(tree_of(file)):
                if isinstance(node, ast.ClassDef):
                    self.assertLessEqual(len(node.bases), 1, (file, node.name))
                    for part in node.body:
                        self.assertIsInstance(part, (ast.FunctionDef, ast.Pass), (file, node.name))

    def test_methods_and_values(self):
        methods = set()
        values = set()
        for file in FILES:
            for node in ast.walk(tree_of(file)):
                if isinstance(node, ast.ClassDef):
                    methods |= {part.name for part in node.body if isinstance(part, ast.FunctionDef)}
                if isinstance(node, ast.Attribute) and isinstance(node.ctx, ast.Store):
                    values.add(node.attr)
        self.assertEqual(methods & values, set())
        self.assertEqual((methods | values) & set(NAMES_OUT + METHODS), set())
        for file in FILES:
            tree = tree_of(file)
            self.assertEqual(bound_names(tree) & set(NAMES_OUT), set(), file)
            for node in ast.walk(tree):
                if isinstance(node, ast.Attribute):
                    self.assertIn(node.attr, METHODS + sorted(methods | values), (file, node.lineno))

    def test_no_parameter_or_local_is_called_like_a_name_of_the_top(self):
        for file in FILES:
            tree = tree_of(file)
            top = bound_names(ast.Module([node for node in tree.body if not isinstance(node, ast.FunctionDef)], []))
            top -= {name for node in tree.body if isinstance(node, ast.ClassDef) for name in bound_names(node)}
            top |= {node.name for node in tree.body if isinstance(node, (ast.FunctionDef, ast.ClassDef))}
            for node in ast.walk(tree):
                if isinstance(node, ast.FunctionDef):
                    local = bound_names(node) - {node.name}
                    self.assertEqual(local & (top | set(dir(builtins))), set(), (file, node.name))

    def test_no_two_files_draw_from_one_another(self):
        drawn = {}
        for file in FILES:
            drawn["gatewhole." + file.stem] = {node.module for node in ast.walk(tree_of(file))
                                               if isinstance(node, ast.ImportFrom)}
        for start in drawn:
            reached = set(drawn[start])
            for step in drawn:
                for name in sorted(reached):
                    reached |= drawn[name]
            self.assertNotIn(start, reached)


if __name__ == "__main__":
    unittest.main()
