"""The package's own files, held against the rules of the language part that can be read off mechanically."""

import ast
import builtins
import re
import unittest
from pathlib import Path

PACKAGE = Path(__file__).resolve().parent.parent / "quarterhouse"
FILES = sorted(PACKAGE.glob("*.py"))

STATEMENTS = (
    ast.FunctionDef, ast.ClassDef, ast.ImportFrom, ast.Assign, ast.AugAssign, ast.If, ast.While, ast.For, ast.Return,
    ast.Break, ast.Continue, ast.Pass, ast.Raise, ast.Try, ast.Expr,
)
EXPRESSIONS = (
    ast.Constant, ast.Name, ast.List, ast.Tuple, ast.Dict, ast.BinOp, ast.UnaryOp, ast.BoolOp, ast.Compare, ast.IfExp,
    ast.Call, ast.Attribute, ast.Subscript, ast.Slice, ast.ListComp, ast.JoinedStr, ast.FormattedValue, ast.Lambda,
)
OWN_NAMES = set("""
    len range enumerate zip min max sum abs sorted reversed int str bool list tuple dict set frozenset isinstance ord
    repr any all divmod Exception ValueError TypeError KeyError IndexError LookupError ZeroDivisionError ArithmeticError
    OverflowError RuntimeError NotImplementedError AttributeError StopIteration
""".split())
METHODS = set("""
    append clear copy count endswith extend find get index insert isalnum isalpha isdigit islower isspace isupper items
    join keys ljust lower lstrip partition pop remove replace reverse rfind rjust rpartition rsplit rstrip setdefault
    split splitlines startswith strip update upper values zfill bit_length
""".split())
WORDS = set("""
    type typing typing_extensions enum Enum IntEnum StrEnum Flag IntFlag Generic Protocol ABC ABCMeta namedtuple
    NamedTuple TypedDict TYPE_CHECKING abstractmethod
""".split())
UNUSED = set("register mro elements open input version_info with_traceback add_note format format_map".split())


def trees():
    return [(file, ast.parse(file.read_text())) for file in FILES]


def nodes(kind):
    return [(file.name, node) for file, tree in trees() for node in ast.walk(tree) if isinstance(node, kind)]


def bound_names(tree):
    stored = [node.id for node in ast.walk(tree) if isinstance(node, ast.Name) and isinstance(node.ctx, ast.Store)]
    stored += [node.arg for node in ast.walk(tree) if isinstance(node, ast.arg)]
    return stored


class Language(unittest.TestCase):
    def test_files(self):
        found = [path for path in PACKAGE.iterdir() if path.name != "__pycache__"]
        self.assertEqual(sorted(found), FILES)
        for file in FILES:
            self.assertTrue(file.stem == "__init__" or re.fullmatch("[a-z][a-z0-9_]*", file.stem), file.name)
            self.assertNotIn(file.stem, dir(builtins))

    def test_signs_and_sizes(self):
        for file, tree in trees():
            text = file.read_text()
            self.assertRegex(text, r"\A[ -~\n]*\Z", file.name)
            self.assertLessEqual(len(text.splitlines()), 400, file.name)
            self.assertLessEqual(max(len(line) for line in text.splitlines()), 120, file.name)
            for node in ast.walk(tree):
                if isinstance(node, ast.FunctionDef):
                    self.assertLessEqual(node.end_lineno - node.lineno + 1, 40, node.name)

    def test_words(self):
        for file in FILES:
            text = file.read_text()
            self.assertEqual(WORDS & set(re.findall(r"\w+", text)), set(), file.name)
            self.assertNotRegex(text, "dataclass|overload|contextmanager")

    def test_statements_and_expressions(self):
        for name, node in nodes(ast.stmt):
            self.assertIsInstance(node, STATEMENTS, (name, node.lineno))
        for name, node in nodes(ast.expr):
            self.assertIsInstance(node, EXPRESSIONS, (name, node.lineno))
        for name, node in nodes(ast.Assign):
            self.assertEqual(len(node.targets), 1, (name, node.lineno))
            self.assertNotIsInstance(node.targets[0], ast.Tuple, (name, node.lineno))
        for name, node in nodes((ast.For, ast.While)):
            self.assertEqual(node.orelse, [], (name, node.lineno))
        for name, node in nodes(ast.Constant):
            self.assertIn(type(node.value), (int, str, bool, type(None)), (name, node.lineno))
        for name, node in nodes(ast.ListComp):
            self.assertEqual(len(node.generators), 1, (name, node.lineno))
            self.assertLessEqual(len(node.generators[0].ifs), 1, (name, node.lineno))
        self.assertEqual(nodes(ast.Div), [])

    def test_is_stands_beside_none_true_and_false_alone(self):
        for name, node in nodes(ast.Compare):
            if isinstance(node.ops[0], (ast.Is, ast.IsNot)):
                self.assertIsInstance(node.comparators[0], ast.Constant, (name, node.lineno))
                self.assertIn(node.comparators[0].value, (None, True, False), (name, node.lineno))

    def test_imports(self):
        defined = {
            file.stem: [node.name for node in tree.body if isinstance(node, (ast.FunctionDef, ast.ClassDef))]
            + [node.targets[0].id for node in tree.body if isinstance(node, ast.Assign)]
            for file, tree in trees()
        }
        for name, node in nodes(ast.ImportFrom):
            self.assertEqual(node.level, 0)
            folder, module = node.module.split(".")
            self.assertEqual(folder, "quarterhouse")
            for found in node.names:
                self.assertIn(found.name, defined[module], (name, node.lineno))
                self.assertIsNone(found.asname)

    def test_no_two_files_draw_from_one_another(self):
        drawn = {
            file.stem: {node.module.split(".")[1] for node in tree.body if isinstance(node, ast.ImportFrom)}
            for file, tree in trees()
        }
        while drawn:
            free = [file for file, others in drawn.items() if not others & set(drawn)]
            self.assertNotEqual(free, [], drawn)
            for file in free:
                drawn.pop(file)

    def test_names(self):
        for file, tree in trees():
            imported = [found.name for node in tree.body if isinstance(node, ast.ImportFrom) for found in node.names]
            classes = [node.name for node in tree.body if isinstance(node, ast.ClassDef)]
            for name in bound_names(tree):
                self.assertRegex(name, "^[A-Za-z][A-Za-z0-9_]*$", file.name)
                self.assertNotIn(name, dir(builtins), file.name)
                self.assertNotIn(name, imported + classes, file.name)
                self.assertNotIn(name, UNUSED, file.name)
            top = [node.name for node in tree.body if isinstance(node, (ast.FunctionDef, ast.ClassDef))]
            top += [node.targets[0].id for node in tree.body if isinstance(node, ast.Assign)] + imported
            self.assertEqual(len(top), len(set(top)), file.name)
            self.assertEqual(UNUSED & set(top), set())

    def test_names_of_pythons_own(self):
        for name, node in nodes(ast.Name):
            if node.id in dir(builtins):
                self.assertIn(node.id, OWN_NAMES, (name, node.lineno))

    def test_methods(self):
        for name, node in nodes(ast.Call):
            if isinstance(node.func, ast.Attribute):
                self.assertIn(node.func.attr, METHODS, (name, node.lineno))
        for name, node in nodes(ast.Attribute):
            self.assertNotIn(node.attr, UNUSED, (name, node.lineno))

    def test_tops_hold_plain_values(self):
        for file, tree in trees():
            for node in tree.body:
                if isinstance(node, ast.Assign):
                    ast.literal_eval(node.value)
                else:
                    self.assertIsInstance(node, (ast.Expr, ast.ImportFrom, ast.FunctionDef, ast.ClassDef), file.name)


if __name__ == "__main__":
    unittest.main()
