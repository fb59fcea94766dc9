"""Those rules of the program's form that can be seen in one file by itself."""

import ast
import pathlib
import re
import unittest

PACKAGE = pathlib.Path(__file__).resolve().parent.parent / "calmcount"
STATEMENTS = (
    ast.Assign, ast.AugAssign, ast.If, ast.While, ast.For, ast.Return, ast.Break, ast.Continue, ast.Pass, ast.Raise,
    ast.Try, ast.FunctionDef, ast.ClassDef, ast.ImportFrom, ast.Expr,
)
EXPRESSIONS = (
    ast.Constant, ast.List, ast.Tuple, ast.Dict, ast.Set, ast.BinOp, ast.UnaryOp, ast.BoolOp, ast.Compare, ast.IfExp,
    ast.Call, ast.Attribute, ast.Subscript, ast.Slice, ast.ListComp, ast.JoinedStr, ast.FormattedValue, ast.Name,
    ast.Lambda,
)
OWN_NAMES = """len range enumerate zip min max sum abs sorted reversed int str bool list tuple dict set isinstance ord
repr any all divmod Exception ValueError KeyError IndexError LookupError ZeroDivisionError StopIteration""".split()
WORDS = """type typing typing_extensions enum Enum IntEnum StrEnum Flag IntFlag Generic Protocol ABC ABCMeta namedtuple
NamedTuple TypedDict TYPE_CHECKING abstractmethod""".split()
PARTS = ("dataclass", "overload", "contextmanager")
METHODS = ("__init__", "__eq__", "__repr__", "__str__", "__len__")
VALUE_METHODS = """append clear copy count endswith extend find get index insert isalnum isalpha isdigit islower isspace
isupper items join keys ljust lower lstrip partition pop remove replace reverse rfind rjust rpartition rsplit rstrip
setdefault split splitlines startswith strip update upper values zfill bit_length""".split()


def bound_names(tree):
    names = set()
    for node in ast.walk(tree):
        if isinstance(node, (ast.FunctionDef, ast.ClassDef)):
            names.add(node.name)
        elif isinstance(node, ast.arg):
            names.add(node.arg)
        elif isinstance(node, ast.alias):
            names.add(node.asname or node.name)
        elif isinstance(node, ast.ExceptHandler) and node.name:
            names.add(node.name)
        elif isinstance(node, ast.Name) and isinstance(node.ctx, ast.Store):
            names.add(node.id)
    return names


def local_names(function):
    names = [node.arg for node in ast.walk(function) if isinstance(node, ast.arg)]
    stored = [node for node in ast.walk(function) if isinstance(node, ast.Name) and isinstance(node.ctx, ast.Store)]
    return set(names + [node.id for node in stored])


class FormTest(unittest.TestCase):
    def setUp(self):
        self.files = sorted(path for path in PACKAGE.rglob("*") if path.is_file() and path.suffix != ".pyc")
        self.trees = [(path.name, ast.parse(path.read_text())) for path in self.files]
        self.nodes = [(name, node) for name, tree in self.trees for node in ast.walk(tree)]

    def test_files(self):
        self.assertIn(PACKAGE / "__init__.py", self.files)
        for path in self.files:
            self.assertRegex(path.name, r"\A([a-z][a-z0-9_]*|__init__|__main__)\.py\Z")

    def test_signs_lines_and_words(self):
        for path in self.files:
            text = path.read_bytes().decode("utf-8")
            self.assertRegex(text, r"\A[ -~\n]*\Z", path.name)
            self.assertLessEqual(len(text.splitlines()), 400, path.name)
            self.assertLessEqual(max(len(line) for line in text.splitlines()), 120, path.name)
            found = re.findall(r"\w+", text)
            self.assertEqual([word for word in found if word in WORDS], [], path.name)
            self.assertEqual([part for part in PARTS if part in text], [], path.name)

    def test_statements_and_expressions(self):
        for name, node in self.nodes:
            if isinstance(node, ast.stmt):
                self.assertIsInstance(node, STATEMENTS, (name, node.lineno))
            if isinstance(node, ast.expr):
                self.assertIsInstance(node, EXPRESSIONS, (name, node.lineno))
            if isinstance(node, ast.Constant):
                self.assertNotIsInstance(node.value, (float, bytes, complex), (name, node.lineno))
            self.assertNotIsInstance(node, ast.Div, name)
            if isinstance(node, ast.BinOp) and isinstance(node.op, ast.Pow):
                self.assertIsInstance(node.right, ast.Constant, (name, node.lineno))
                self.assertIn(node.right.value, range(65), (name, node.lineno))

    def test_functions(self):
        for name, node in self.nodes:
            if isinstance(node, ast.FunctionDef):
                self.assertLessEqual(node.end_lineno - node.lineno + 1, 40, (name, node.name))
                self.assertEqual(node.decorator_list, [], (name, node.name))
                rest = (node.args.vararg, node.args.kwarg, node.returns)
                self.assertEqual(rest, (None, None, None), (name, node.name))
                self.assertEqual(node.args.kwonlyargs, [], (name, node.name))
            if isinstance(node, ast.arg):
                self.assertIsNone(node.annotation, (name, node.arg))

    def test_imports_are_the_program_s_own(self):
        for name, node in self.nodes:
            if isinstance(node, ast.ImportFrom):
                self.assertEqual(node.level, 0, (name, node.lineno))
                self.assertRegex(node.module, r"\Acalmcount\.[a-z_]+\Z", (name, node.lineno))
                self.assertNotIn("*", [alias.name for alias in node.names], (name, node.lineno))

    def test_names(self):
        for name, tree in self.trees:
            bound = bound_names(tree)
            for word in bound:
                self.assertTrue(not word.startswith("_") or word in METHODS, (name, word))
                self.assertNotIn(word, OWN_NAMES, name)
            for node in ast.walk(tree):
                if isinstance(node, ast.Name) and node.id not in bound:
                    self.assertIn(node.id, OWN_NAMES, (name, node.lineno))

    def test_the_top_of_a_file_binds_each_name_once(self):
        for name, tree in self.trees:
            top = []
            for node in tree.body:
                self.assertIsInstance(node, (ast.Expr, ast.ImportFrom, ast.Assign, ast.FunctionDef, ast.ClassDef), name)
                if not isinstance(node, (ast.FunctionDef, ast.ClassDef)):
                    top += sorted(bound_names(node))
                else:
                    top.append(node.name)
                if isinstance(node, ast.Expr):
                    self.assertIsInstance(node.value, ast.Constant, name)
                if isinstance(node, ast.Assign):
                    self.assertFalse(any(isinstance(part, ast.Call) for part in ast.walk(node)), name)
            self.assertEqual(sorted(top), sorted(set(top)), name)

    def test_no_local_is_called_like_a_class_or_an_import(self):
        for name, tree in self.trees:
            taken = [node.name for node in tree.body if isinstance(node, ast.ClassDef)]
            for node in tree.body:
                if isinstance(node, ast.ImportFrom):
                    taken += [alias.name for alias in node.names]
            for node in ast.walk(tree):
                if isinstance(node, ast.FunctionDef):
                    self.assertEqual(local_names(node) & set(taken), set(), (name, node.name))

    def test_methods_and_values_of_objects(self):
        own = set()
        values = set()
        for name, node in self.nodes:
            if isinstance(node, ast.ClassDef):
                own |= {part.name for part in node.body if isinstance(part, ast.FunctionDef)}
            if isinstance(node, ast.Attribute) and isinstance(node.ctx, ast.Store):
                values.add(node.attr)
        self.assertEqual(own & values, set())
        self.assertEqual(values & set(VALUE_METHODS), set())
        for name, node in self.nodes:
            if isinstance(node, ast.Attribute):
                self.assertIn(node.attr, own | values | set(VALUE_METHODS), (name, node.lineno))

    def test_is_stands_beside_none_and_the_truths_alone(self):
        for name, node in self.nodes:
            if isinstance(node, ast.Compare) and any(isinstance(op, (ast.Is, ast.IsNot)) for op in node.ops):
                beside = [part for part in node.comparators if isinstance(part, ast.Constant)]
                self.assertTrue(all(part.value in (None, True, False) for part in beside), (name, node.lineno))
                self.assertEqual(len(beside), len(node.comparators), (name, node.lineno))

    def test_no_two_files_draw_from_one_another(self):
        draws = {}
        for name, tree in self.trees:
            modules = [node.module for node in tree.body if isinstance(node, ast.ImportFrom)]
            draws[name] = {module.split(".")[1] + ".py" for module in modules}
        while draws:
            free = [name for name in draws if not draws[name] & set(draws)]
            self.assertNotEqual(free, [], draws)
            for name in free:
                del draws[name]


if __name__ == "__main__":
    unittest.main()
