"""Those rules of the program's form that can be seen in one file by itself."""

import ast
import pathlib
import re
import unittest

PACKAGE = pathlib.Path(__file__).resolve().parent.parent / "calmcount"
STATEMENTS = (
    ast.Assign, ast.AugAssign, ast.If, ast.While, ast.For, ast.Return, ast.Break, ast.Continue, ast.Pass, ast.Raise,
    ast.Try, ast.FunctionDef, ast.ClassDef, ast.ImportFrom, ast.Expr,
)
EXPRESSIONS = (
    ast.Constant, ast.List, ast.Tuple, ast.Dict, ast.Set, ast.BinOp, ast.UnaryOp, ast.BoolOp, ast.Compare, ast.IfExp,
    ast.Call, ast.Attribute, ast.Subscript, ast.Slice, ast.ListComp, ast.JoinedStr, ast.FormattedValue, ast.Name,
    ast.Lambda,
)
OWN_NAMES = """len range enumerate zip min max sum abs sorted reversed int str bool list tuple dict set isinstance ord
repr any all divmod Exception ValueError KeyError IndexError LookupError ZeroDivisionError StopIteration""".split()
WORDS = """type typing typing_extensions enum Enum IntEnum StrEnum Flag IntFlag Generic Protocol ABC ABCMeta namedtuple
NamedTuple TypedDict TYPE_CHECKING abstractmethod""".split()
PARTS = ("dataclass", "overload", "contextmanager")
METHODS = ("__init__", "__eq__", "__repr__", "__str__", "__len__")


def bound_names(tree):
    names = set()
    for node in ast.walk(tree):
        if isinstance(node, (ast.FunctionDef, ast.ClassDef)):
            names.add(node.name)
        elif isinstance(node, ast.arg):
            names.add(node.arg)
        elif isinstance(node, ast.alias):
            names.add(node.asname or node.name)
        elif isinstance(node, ast.ExceptHandler) and node.name:
            names.add(node.name)
        elif isinstance(node, ast.Name) and isinstance(node.ctx, ast.Store):
            names.add(node.id)
    return names


class FormTest(unittest.TestCase):
    def setUp(self):
        self.files = sorted(path for path in PACKAGE.rglob("*") if path.is_file() and path.suffix != ".pyc")
        self.trees = [(path.name, ast.parse(path.read_text())) for path in self.files]
        self.nodes = [(name, node) for name, tree in self.trees for node in ast.walk(tree)]

    def test_files(self):
        self.assertIn(PACKAGE / "__init__.py", self.files)
        for path in self.files:
            self.assertRegex(path.name, r"\A([a-z][a-z0-9_]*|__init__|__main__)\.py\Z")

    def test_signs_lines_and_words(self):
        for path in self.files:
            text = path.read_bytes().decode("utf-8")
            self.assertRegex(text, r"\A[ -~\n]*\Z", path.name)
            self.assertLessEqual(len(text.splitlines()), 400, path.name)
            self.assertLessEqual(max(len(line) for line in text.splitlines()), 120, path.name)
            found = re.findall(r"\w+", text)
            self.assertEqual([word for word in found if word in WORDS], [], path.name)
            self.assertEqual([part for part in PARTS if part in text], [], path.name)

    def test_statements_and_expressions(self):
        for name, node in self.nodes:
            if isinstance(node, ast.stmt):
                self.assertIsInstance(node, STATEMENTS, (name, node.lineno))
            if isinstance(node, ast.expr):
                self.assertIsInstance(node, EXPRESSIONS, (name, node.lineno))
            if isinstance(node, ast.Constant):
                self.assertNotIsInstance(node.value, (float, bytes, complex), (name, node.lineno))
            self.assertNotIsInstance(node, ast.Div, name)
            if isinstance(node, ast.BinOp) and isinstance(node.op, ast.Pow):
                self.assertIsInstance(node.right, ast.Constant, (name, node.lineno))
                self.assertIn(node.right.value, range(65), (name, node.lineno))

    def test_functions(self):
        for name, node in self.nodes:
            if isinstance(node, ast.FunctionDef):
                self.assertLessEqual(node.end_lineno - node.lineno + 1, 40, (name, node.name))
                self.assertEqual(node.decorator_list, [], (name, node.name))
                rest = (node.args.vararg, node.args.kwarg, node.returns)
                self.assertEqual(rest, (None, None, None), (name, node.name))
                self.assertEqual(node.args.kwonlyargs, [], (name, node.name))
            if isinstance(node, ast.arg):
                self.assertIsNone(node.annotation, (name, node.arg))

    def test_imports_are_the_program_s_own(self):
        for name, node in self.nodes:
            if isinstance(node, ast.ImportFrom):
                self.assertEqual(node.level, 0, (name, node.lineno))
                self.assertRegex(node.module, r"\Acalmcount\.[a-z_]+\Z", (name, node.lineno))
                self.assertNotIn("*", [alias.name for alias in node.names], (name, node.lineno))

    def test_names(self):
        for name, tree in self.trees:
            bound = bound_names(tree)
            for word in bound:
                self.assertTrue(not word.startswith("_") or word in METHODS, (name, word))
                self.assertNotIn(word, OWN_NAMES, name)
            for node in ast.walk(tree):
                if isinstance(node, ast.Name) and node.id not in bound:
                    self.assertIn(node.id, OWN_NAMES, (name, node.lineno))


if __name__ == "__main__":
    unittest.main()
