"""The form of the code: the plain ones of the rules of LANGUAGE.md, over every file of the package."""

import ast
import builtins
import pathlib
import re
import unittest

PACKAGE = pathlib.Path(__file__).resolve().parent.parent / "speechloom"

# L8: the builtins that may be used.
ALLOWED = set("""
len range enumerate zip min max sum abs sorted reversed int str bool bytes list tuple dict set frozenset isinstance
ord repr any all divmod iter next Exception ValueError TypeError KeyError IndexError LookupError ZeroDivisionError
ArithmeticError OverflowError RuntimeError NotImplementedError AttributeError StopIteration NotImplemented super
property staticmethod classmethod object float
""".split())

# L17: words that stand in no file, and those that stand in no longer word either.
BARRED = set("""
type typing typing_extensions enum Enum IntEnum StrEnum Flag IntFlag Generic Protocol ABC ABCMeta namedtuple
NamedTuple TypedDict TYPE_CHECKING abstractmethod
""".split())
BARRED_WITHIN = ("dataclass", "overload", "contextmanager")
BARRED_NAMES = {"register", "mro", "elements", "open", "input", "law", "version_info", "with_traceback", "add_note"}

# L25, L7: the methods of builtin values that may be called.
METHODS = set("""
append clear copy count endswith extend find get index insert isalnum isalpha isdigit islower isspace isupper items join
keys ljust lower lstrip partition pop remove replace reverse rfind rjust rpartition rsplit rstrip setdefault split
splitlines startswith strip update upper values zfill bit_length sort add discard
title capitalize swapcase casefold center expandtabs removeprefix removesuffix rindex isascii isdecimal isnumeric istitle
isidentifier isprintable translate maketrans encode decode hex from_bytes
""".split())
# L22: the keywords that builtins may be called with.
KEYWORDS = {"sorted": {"key", "reverse"}, "min": {"key", "default"}, "max": {"key", "default"}, "sum": {"start"},
            "enumerate": {"start"}, "zip": {"strict"}}
# L23: what is iterated on the spot, and where it may stand.
LAZY = {"zip", "enumerate", "reversed", "range"}
EAGER = {"list", "tuple", "dict", "sorted", "sum", "any", "all", "enumerate", "zip", "min", "max", "len", "reversed"}

MODULE_LEVEL = (ast.ImportFrom, ast.FunctionDef, ast.ClassDef, ast.Assign, ast.AnnAssign)
BARRED_NODES = (ast.Global, ast.AsyncFunctionDef, ast.AsyncFor, ast.AsyncWith, ast.Await, ast.Import, ast.Div)


def is_docstring(node):
    return isinstance(node, ast.Expr) and isinstance(node.value, ast.Constant) and isinstance(node.value.value, str)


def bound_names(tree):
    """All names that the file gives a meaning, of whatever sort."""
    for node in ast.walk(tree):
        if isinstance(node, (ast.FunctionDef, ast.ClassDef)):
            yield node.name
        elif isinstance(node, ast.arg):
            yield node.arg
        elif isinstance(node, ast.Name) and not isinstance(node.ctx, ast.Load):
            yield node.id
        elif isinstance(node, ast.alias):
            yield node.asname or node.name
        elif isinstance(node, ast.ExceptHandler) and node.name:
            yield node.name


def called_name(node):
    """The name of a call of a bare name, else None."""
    return node.func.id if isinstance(node, ast.Call) and isinstance(node.func, ast.Name) else None


def makes_set(node):
    return isinstance(node, (ast.Set, ast.SetComp)) or called_name(node) in ("set", "frozenset")


def own_names(function):
    """The parameters and local variables of a function, its lambdas' and comprehensions' too."""
    for node in ast.walk(function):
        if isinstance(node, ast.arg):
            yield node.arg
        elif isinstance(node, ast.Name) and not isinstance(node.ctx, ast.Load):
            yield node.id
        elif isinstance(node, ast.FunctionDef) and node is not function:
            yield node.name


class Form(unittest.TestCase):
    def setUp(self):
        self.files = sorted(path for path in PACKAGE.rglob("*") if "__pycache__" not in path.parts)
        self.texts = {path.name: path.read_bytes().decode("ascii") for path in self.files}
        self.trees = {name: ast.parse(text) for name, text in self.texts.items()}

    def walk(self):
        for name, tree in self.trees.items():
            for node in ast.walk(tree):
                yield f"{name}:{getattr(node, 'lineno', 0)}", node

    def test_files_L1_L14(self):
        self.assertIn("__init__.py", self.texts)
        for path in self.files:
            self.assertTrue(path.is_file() and path.parent == PACKAGE, path)
            self.assertRegex(path.name, r"\A(__init__|__main__|[a-z][a-z0-9_]*)\.py\Z")
            self.assertFalse(path.name.startswith(("test", "law_", "site", "conftest")), path)

    def test_characters_and_sizes_L10_L14(self):
        for name, text in self.texts.items():
            self.assertRegex(text, r"\A[ -~\n]*\Z", name)
            lines = text.splitlines()
            self.assertLessEqual(len(lines), 399, name)
            self.assertLessEqual(max(map(len, lines), default=0), 120, name)
        for place, node in self.walk():
            if isinstance(node, ast.FunctionDef):
                self.assertLessEqual(node.end_lineno - node.lineno + 1, 40, place)

    def test_imports_L2_L16(self):
        for place, node in self.walk():
            if isinstance(node, ast.ImportFrom) and node.module != "__future__":
                home = self.trees.get((node.module or "").removeprefix("speechloom.") + ".py")
                self.assertTrue(node.level == 0 and home is not None, place)
                self.assertLessEqual({alias.name for alias in node.names}, set(bound_names(home)), place)

    def test_module_level_L3(self):
        for name, tree in self.trees.items():
            for at, node in enumerate(tree.body):
                plain = isinstance(node, MODULE_LEVEL) or (at == 0 and is_docstring(node))
                self.assertTrue(plain or name == "__main__.py", f"{name}:{node.lineno}")

    def test_statements_and_numbers_L6_L7(self):
        for place, node in self.walk():
            self.assertNotIsInstance(node, BARRED_NODES, place)
            self.assertFalse(isinstance(node, ast.Constant) and isinstance(node.value, (float, complex)), place)

    def test_builtins_L8_L15(self):
        own = set(dir(builtins))
        for name, tree in self.trees.items():
            self.assertFalse(own & set(bound_names(tree)), name)
        for place, node in self.walk():
            if isinstance(node, ast.Name) and node.id in own and not place.startswith("__main__"):
                self.assertIn(node.id, ALLOWED, place)

    def test_names_L12_L17(self):
        for name, tree in self.trees.items():
            for bound in bound_names(tree):
                self.assertRegex(bound, r"\A([A-Za-z][A-Za-z0-9_]*|__[a-z]+__)\Z", name)
                self.assertNotIn(bound, BARRED_NAMES, name)
            found = set(re.findall(r"\w+", self.texts[name])) & BARRED
            found |= {word for word in BARRED_WITHIN if word in self.texts[name]}
            self.assertFalse(found, name)

    def test_strings_L27(self):
        for place, node in self.walk():
            if isinstance(node, ast.Constant) and isinstance(node.value, str):
                self.assertNotIn("%", node.value, place)
        for name, text in self.texts.items():
            self.assertNotRegex(text, r"(?<!\\)(\\\\)*\\[^nt\\'\"]", name)

    def test_locals_have_no_names_of_imports_or_classes_L15(self):
        for name, tree in self.trees.items():
            taken = {node.name for node in tree.body if isinstance(node, ast.ClassDef)}
            taken |= {alias.asname or alias.name for node in tree.body if isinstance(node, ast.ImportFrom)
                      for alias in node.names}
            for node in ast.walk(tree):
                if isinstance(node, ast.FunctionDef):
                    self.assertFalse(taken & set(own_names(node)), f"{name}:{node.lineno}")

    def test_one_binding_at_module_level_L15(self):
        for name, tree in self.trees.items():
            bound = []
            for node in tree.body:
                bound += [alias.asname or alias.name for alias in node.names] if isinstance(node, ast.ImportFrom) else []
                bound += [node.name] if isinstance(node, (ast.FunctionDef, ast.ClassDef)) else []
                bound += [target.id for target in node.targets] if isinstance(node, ast.Assign) else []
            self.assertEqual(len(bound), len(set(bound)), name)

    def test_no_round_of_imports_L16(self):
        needs = {name: {node.module.removeprefix("speechloom.") + ".py" for node in tree.body
                        if isinstance(node, ast.ImportFrom) and node.module.startswith("speechloom.")}
                 for name, tree in self.trees.items()}
        while needs:
            free = [name for name in needs if not needs[name] & set(needs)]
            self.assertTrue(free, sorted(needs))
            needs = {name: needs[name] for name in needs if name not in free}

    def test_imports_are_defined_in_the_very_file_and_used_L16(self):
        for name, tree in self.trees.items():
            read = {node.id for node in ast.walk(tree) if isinstance(node, ast.Name)}
            for node in tree.body:
                if isinstance(node, ast.ImportFrom) and node.module != "__future__":
                    home = self.trees[node.module.removeprefix("speechloom.") + ".py"]
                    defined = {inner.name for inner in home.body if isinstance(inner, (ast.FunctionDef, ast.ClassDef))}
                    defined |= {target.id for inner in home.body if isinstance(inner, ast.Assign)
                                for target in inner.targets}
                    self.assertLessEqual({alias.name for alias in node.names}, defined, name)
                    self.assertLessEqual({alias.asname or alias.name for alias in node.names}, read, name)

    def test_methods_and_attributes_L18_L25_L26(self):
        methods = {inner.name for _, node in self.walk() if isinstance(node, ast.ClassDef)
                   for inner in node.body if isinstance(inner, ast.FunctionDef)}
        assigned = {node.attr for _, node in self.walk()
                    if isinstance(node, ast.Attribute) and isinstance(node.ctx, ast.Store)}
        self.assertFalse(methods & assigned)
        builtin = {name for kind in (str, int, list, dict, set, bytes, tuple) for name in dir(kind)}
        self.assertFalse((methods | assigned) & {name for name in builtin if not name.startswith("__")})
        calls = {id(node.func) for _, node in self.walk() if isinstance(node, ast.Call)}
        for place, node in self.walk():
            if isinstance(node, ast.Attribute) and isinstance(node.ctx, ast.Load):
                self.assertIn(node.attr, (methods | METHODS) if id(node) in calls else assigned, place)

    def test_is_L20(self):
        for place, node in self.walk():
            if isinstance(node, ast.Compare) and any(isinstance(op, (ast.Is, ast.IsNot)) for op in node.ops):
                self.assertTrue(all(isinstance(side, ast.Constant) and side.value in (None, True, False)
                                    for side in node.comparators), place)

    def test_keywords_of_builtins_L22(self):
        for place, node in self.walk():
            name = called_name(node)
            if name in dir(builtins):
                self.assertLessEqual({keyword.arg for keyword in node.keywords}, KEYWORDS.get(name, set()), place)
            elif isinstance(node, ast.Call) and isinstance(node.func, ast.Attribute) and node.func.attr in METHODS:
                self.assertLessEqual({keyword.arg for keyword in node.keywords}, {"key", "reverse"}, place)

    def test_iterated_at_once_L23(self):
        for name, tree in self.trees.items():
            fine = set()
            for node in ast.walk(tree):
                if isinstance(node, (ast.For, ast.comprehension)):
                    fine.add(id(node.iter))
                elif called_name(node) in EAGER:
                    fine |= {id(inner) for inner in node.args}
            for node in ast.walk(tree):
                lazy = called_name(node) in LAZY or isinstance(node, ast.GeneratorExp) or (
                    isinstance(node, ast.Call) and isinstance(node.func, ast.Attribute)
                    and node.func.attr in ("items", "keys", "values"))
                self.assertTrue(not lazy or id(node) in fine, f"{name}:{getattr(node, 'lineno', 0)}")

    def test_sets_L24(self):
        for name, tree in self.trees.items():
            fine = set()
            for node in ast.walk(tree):
                if isinstance(node, ast.Compare):
                    fine |= {id(side) for side in [node.left, *node.comparators]}
                elif called_name(node) in ("sorted", "len"):
                    fine |= {id(inner) for inner in node.args}
                elif isinstance(node, ast.Assign) and len(node.targets) == 1 and isinstance(node.targets[0], ast.Name):
                    fine.add(id(node.value))
            for node in ast.walk(tree):
                self.assertTrue(not makes_set(node) or id(node) in fine, f"{name}:{getattr(node, 'lineno', 0)}")

    def test_handlers_and_raises_L19(self):
        for place, node in self.walk():
            if isinstance(node, ast.ExceptHandler):
                self.assertIsNotNone(node.type, place)
            if isinstance(node, ast.Raise) and node.exc is not None:
                self.assertIsNotNone(called_name(node.exc), place)

    def test_lambdas_L13(self):
        for name, tree in self.trees.items():
            lines = [(node.lineno, tuple(arg.arg for arg in node.args.args)) for node in ast.walk(tree)
                     if isinstance(node, ast.Lambda)]
            self.assertEqual(len(lines), len(set(lines)), name)


if __name__ == "__main__":
    unittest.main()
