"""The form of the package's files: those rules of LANGUAGE.md that a walk over the code can see."""

import ast
import builtins
import re
import unittest
from pathlib import Path

PACKAGE = Path(__file__).resolve().parent.parent / "tanyard"
FILES = sorted(PACKAGE.rglob("*.py"))
TREES = {path: ast.parse(path.read_text("ascii")) for path in FILES}

NODES = """Module Expr ImportFrom alias FunctionDef arguments arg ClassDef Assign AugAssign If While For Return Break
    Continue Pass Raise Try ExceptHandler BoolOp And Or BinOp Add Sub Mult FloorDiv Mod Pow BitAnd BitOr BitXor LShift
    RShift UnaryOp USub UAdd Not Invert Lambda IfExp Dict Set ListComp comprehension Compare Eq NotEq Lt LtE Gt GtE Is
    IsNot In NotIn Call keyword JoinedStr FormattedValue Constant Attribute Subscript Name List Tuple Slice Load
    Store""".split()
OWN_NAMES = """len range enumerate zip min max sum abs sorted reversed int str bool list tuple dict set frozenset
    isinstance ord repr any all divmod Exception ValueError TypeError KeyError IndexError LookupError
    ZeroDivisionError ArithmeticError OverflowError RuntimeError NotImplementedError AttributeError
    StopIteration""".split()
METHODS = """append clear copy count endswith extend find get index insert isalnum isalpha isdigit islower isspace
    isupper items join keys ljust lower lstrip partition pop remove replace reverse rfind rjust rpartition rsplit rstrip
    setdefault split splitlines startswith strip update upper values zfill bit_length __init__""".split()
WORDS = """type typing typing_extensions enum Enum IntEnum StrEnum Flag IntFlag Generic Protocol ABC ABCMeta namedtuple
    NamedTuple TypedDict TYPE_CHECKING abstractmethod""".split()
PARTS = ["dataclass", "overload", "contextmanager"]


def nodes(*kinds):
    return [(path, node) for path, tree in TREES.items() for node in ast.walk(tree) if isinstance(node, kinds)]


def bound_names():
    for path, node in nodes(ast.FunctionDef, ast.ClassDef):
        yield node.name
    for path, node in nodes(ast.arg):
        yield node.arg
    for path, node in nodes(ast.Name):
        if isinstance(node.ctx, ast.Store):
            yield node.id
    for path, node in nodes(ast.ExceptHandler):
        if node.name is not None:
            yield node.name


class Files(unittest.TestCase):
    def test_only_python_files_with_plain_names(self):
        for path in PACKAGE.rglob("*"):
            if "__pycache__" not in path.parts:
                self.assertRegex(path.name, r"^(__init__|[a-z][a-z0-9_]*)\.py$")

    def test_signs_and_sizes(self):
        for path in FILES:
            text = path.read_text("ascii")
            self.assertRegex(text, r"^[ -~\n]*$", path)
            rows = text.split("\n")
            self.assertLessEqual(len(rows), 399, path)
            self.assertLessEqual(max(len(row) for row in rows), 120, path)
        for path, node in nodes(ast.FunctionDef):
            self.assertLessEqual(node.end_lineno - node.lineno + 1, 40, node.name)

    def test_words_that_stand_nowhere(self):
        for path in FILES:
            text = path.read_text("ascii")
            self.assertEqual(set(re.findall(r"\w+", text)) & set(WORDS), set(), path)
            self.assertEqual([part for part in PARTS if part in text], [], path)


class Code(unittest.TestCase):
    def test_statements_and_expressions(self):
        for path, node in nodes(ast.AST):
            self.assertIn(node.__class__.__name__, NODES, path)
        for path, node in nodes(ast.For, ast.While):
            self.assertEqual(node.orelse, [], path)
        for path, node in nodes(ast.Try):
            self.assertEqual(node.finalbody, [], path)
        for path, node in nodes(ast.Assign):
            self.assertEqual(len(node.targets), 1, path)
        for path, node in nodes(ast.ListComp):
            self.assertEqual(len(node.generators), 1, path)
        for path, node in nodes(ast.Constant):
            self.assertIn(node.value.__class__, (int, str, bool, None.__class__), path)

    def test_a_text_by_itself_is_the_docstring_of_a_file(self):
        for path, node in nodes(ast.Expr):
            if not isinstance(node.value, ast.Call):
                self.assertIs(node, TREES[path].body[0], path)

    def test_plain_functions_and_classes(self):
        for path, node in nodes(ast.FunctionDef, ast.ClassDef):
            self.assertEqual(node.decorator_list, [], node.name)
        for path, node in nodes(ast.arguments):
            self.assertEqual((node.vararg, node.kwarg, node.kwonlyargs, node.posonlyargs), (None, None, [], []), path)
        for path, node in nodes(ast.ClassDef):
            self.assertLessEqual(len(node.bases), 1, node.name)
            self.assertTrue(all(isinstance(part, ast.FunctionDef) for part in node.body), node.name)

    def test_imports_are_the_packages_own_from_where_they_are_defined(self):
        for path, node in nodes(ast.ImportFrom):
            self.assertEqual(node.level, 0, path)
            source = PACKAGE.parent / (node.module.replace(".", "/") + ".py")
            defined = [part.name for part in TREES[source].body if isinstance(part, (ast.FunctionDef, ast.ClassDef))]
            for name in node.names:
                self.assertIn(name.name, defined, path)
                self.assertIsNone(name.asname, path)

    def test_names(self):
        pythons_own = set(dir(builtins))
        for name in bound_names():
            if name != "__init__":
                self.assertRegex(name, r"^[A-Za-z][A-Za-z0-9_]*$")
                self.assertNotIn(name, pythons_own)
        for path, node in nodes(ast.Name):
            if node.id in pythons_own:
                self.assertIn(node.id, OWN_NAMES, path)

    def test_methods(self):
        own = {part.name for path, node in nodes(ast.ClassDef) for part in node.body}
        for path, node in nodes(ast.Call):
            if isinstance(node.func, ast.Attribute):
                self.assertIn(node.func.attr, set(METHODS) | own, path)
        values = {node.attr for path, node in nodes(ast.Attribute) if isinstance(node.ctx, ast.Store)}
        self.assertEqual(values & own, set())
        for name in (values | own) - {"__init__"}:
            for kind in (str, int, list, dict, set, bytes):
                self.assertFalse(hasattr(kind, name), name)


if __name__ == "__main__":
    unittest.main()
