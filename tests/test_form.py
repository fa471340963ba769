"""The form of the code: the plain ones of the rules of LANGUAGE.md, over every file of the package."""

import ast
import builtins
import pathlib
import re
import unittest

PACKAGE = pathlib.Path(__file__).resolve().parent.parent / "speechloom"

# L8: the builtins that may be used.
ALLOWED = set("""
len range enumerate zip min max sum abs sorted reversed int str bool bytes list tuple dict set frozenset isinstance
ord repr any all divmod iter next Exception ValueError TypeError KeyError IndexError LookupError ZeroDivisionError
ArithmeticError OverflowError RuntimeError NotImplementedError AttributeError StopIteration NotImplemented super
property staticmethod classmethod object float
""".split())

# L17: words that stand in no file, and those that stand in no longer word either.
BARRED = set("""
type typing typing_extensions enum Enum IntEnum StrEnum Flag IntFlag Generic Protocol ABC ABCMeta namedtuple
NamedTuple TypedDict TYPE_CHECKING abstractmethod
""".split())
BARRED_WITHIN = ("dataclass", "overload", "contextmanager")
BARRED_NAMES = {"register", "mro", "elements", "open", "input", "law", "version_info", "with_traceback", "add_note"}

MODULE_LEVEL = (ast.ImportFrom, ast.FunctionDef, ast.ClassDef, ast.Assign, ast.AnnAssign)
BARRED_NODES = (ast.Global, ast.AsyncFunctionDef, ast.AsyncFor, ast.AsyncWith, ast.Await, ast.Import, ast.Div)


def is_docstring(node):
    return isinstance(node, ast.Expr) and isinstance(node.value, ast.Constant) and isinstance(node.value.value, str)


def bound_names(tree):
    """All names that the file gives a meaning, of whatever sort."""
    for node in ast.walk(tree):
        if isinstance(node, (ast.FunctionDef, ast.ClassDef)):
            yield node.name
        elif isinstance(node, ast.arg):
            yield node.arg
        elif isinstance(node, ast.Name) and not isinstance(node.ctx, ast.Load):
            yield node.id
        elif isinstance(node, ast.alias):
            yield node.asname or node.name
        elif isinstance(node, ast.ExceptHandler) and node.name:
            yield node.name


class Form(unittest.TestCase):
    def setUp(self):
        self.files = sorted(path for path in PACKAGE.rglob("*") if "__pycache__" not in path.parts)
        self.texts = {path.name: path.read_bytes().decode("ascii") for path in self.files}
        self.trees = {name: ast.parse(text) for name, text in self.texts.items()}

    def walk(self):
        for name, tree in self.trees.items():
            for node in ast.walk(tree):
                yield f"{name}:{getattr(node, 'lineno', 0)}", node

    def test_files_L1_L14(self):
        self.assertIn("__init__.py", self.texts)
        for path in self.files:
            self.assertTrue(path.is_file() and path.parent == PACKAGE, path)
            self.assertRegex(path.name, r"\A(__init__|__main__|[a-z][a-z0-9_]*)\.py\Z")
            self.assertFalse(path.name.startswith(("test", "law_", "site", "conftest")), path)

    def test_characters_and_sizes_L10_L14(self):
        for name, text in self.texts.items():
            self.assertRegex(text, r"\A[ -~\n]*\Z", name)
            lines = text.splitlines()
            self.assertLessEqual(len(lines), 399, name)
            self.assertLessEqual(max(map(len, lines), default=0), 120, name)
        for place, node in self.walk():
            if isinstance(node, ast.FunctionDef):
                self.assertLessEqual(node.end_lineno - node.lineno + 1, 40, place)

    def test_imports_L2_L16(self):
        for place, node in self.walk():
            if isinstance(node, ast.ImportFrom) and node.module != "__future__":
                home = self.trees.get((node.module or "").removeprefix("speechloom.") + ".py")
                self.assertTrue(node.level == 0 and home is not None, place)
                self.assertLessEqual({alias.name for alias in node.names}, set(bound_names(home)), place)

    def test_module_level_L3(self):
        for name, tree in self.trees.items():
            for at, node in enumerate(tree.body):
                plain = isinstance(node, MODULE_LEVEL) or (at == 0 and is_docstring(node))
                self.assertTrue(plain or name == "__main__.py", f"{name}:{node.lineno}")

    def test_statements_and_numbers_L6_L7(self):
        for place, node in self.walk():
            self.assertNotIsInstance(node, BARRED_NODES, place)
            self.assertFalse(isinstance(node, ast.Constant) and isinstance(node.value, (float, complex)), place)

    def test_builtins_L8_L15(self):
        own = set(dir(builtins))
        for name, tree in self.trees.items():
            self.assertFalse(own & set(bound_names(tree)), name)
        for place, node in self.walk():
            if isinstance(node, ast.Name) and node.id in own and not place.startswith("__main__"):
                self.assertIn(node.id, ALLOWED, place)

    def test_names_L12_L17(self):
        for name, tree in self.trees.items():
            for bound in bound_names(tree):
                self.assertRegex(bound, r"\A([A-Za-z][A-Za-z0-9_]*|__[a-z]+__)\Z", name)
                self.assertNotIn(bound, BARRED_NAMES, name)
            found = set(re.findall(r"\w+", self.texts[name])) & BARRED
            found |= {word for word in BARRED_WITHIN if word in self.texts[name]}
            self.assertFalse(found, name)

    def test_strings_L27(self):
        for place, node in self.walk():
            if isinstance(node, ast.Constant) and isinstance(node.value, str):
                self.assertNotIn("%", node.value, place)
        for name, text in self.texts.items():
            self.assertNotRegex(text, r"(?<!\\)(\\\\)*\\[^nt\\'\"]", name)


if __name__ == "__main__":
    unittest.main()
