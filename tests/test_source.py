"""The package's own files keep to the part of Python that they may use.

This also holds the promise that nothing uses a clock, chance or files: none
of these can be reached without an import or a name that is refused here.
"""

import ast
import pathlib
import re
import unittest

PACKAGE = pathlib.Path(__file__).resolve().parent.parent / "fourtell"

OWN_NAMES = set(
    "len range enumerate zip min max sum abs sorted reversed int str bool list tuple dict set"
    " frozenset isinstance ord repr any all divmod Exception ValueError TypeError KeyError"
    " IndexError LookupError ZeroDivisionError ArithmeticError OverflowError RuntimeError"
    " NotImplementedError AttributeError StopIteration".split()
)

METHODS = set(
    "append clear copy count endswith extend find get index insert isalnum isalpha isdigit islower"
    " isspace isupper items join keys ljust lower lstrip partition pop remove replace reverse rfind"
    " rjust rpartition rsplit rstrip setdefault split splitlines startswith strip update upper"
    " values zfill bit_length".split()
)

NODES = set(
    "Module Expr Constant ImportFrom alias FunctionDef arguments arg Lambda ClassDef Assign AugAssign"
    " If While For Return Break Continue Pass Raise Try ExceptHandler Call BinOp UnaryOp BoolOp"
    " Compare IfExp Attribute Subscript Slice ListComp comprehension JoinedStr FormattedValue"
    " List Tuple Dict Set Name Load Store keyword And Or Not USub Add Sub Mult FloorDiv Mod Pow"
    " BitAnd BitOr BitXor LShift RShift Invert Eq NotEq Lt LtE Gt GtE Is IsNot In NotIn".split()
)

NO_WORDS = re.compile(
    r"\b(type|typing|typing_extensions|enum|Enum|IntEnum|StrEnum|Flag|IntFlag|Generic|Protocol|ABC"
    r"|ABCMeta|namedtuple|NamedTuple|TypedDict|TYPE_CHECKING|abstractmethod)\b"
    r"|dataclass|overload|contextmanager"
)


def files():
    return sorted(PACKAGE.glob("*.py"))


def trees():
    return [(file.name, ast.parse(file.read_text())) for file in files()]


def bound_names(tree):
    names = set()
    for node in ast.walk(tree):
        if isinstance(node, (ast.FunctionDef, ast.ClassDef)):
            names.add(node.name)
        elif isinstance(node, ast.arg):
            names.add(node.arg)
        elif isinstance(node, ast.alias):
            names.add(node.asname or node.name)
        elif isinstance(node, ast.Name) and isinstance(node.ctx, ast.Store):
            names.add(node.id)
        elif isinstance(node, ast.ExceptHandler) and node.name:
            names.add(node.name)
    return names


class SourceTest(unittest.TestCase):
    def test_only_python_files_lie_in_the_package(self):
        found = [path.name for path in PACKAGE.iterdir() if path.name != "__pycache__"]
        self.assertIn("__init__.py", found)
        for name in found:
            self.assertRegex(name, r"\A[a-z0-9_]+\.py\Z")

    def test_only_the_packages_own_modules_are_imported(self):
        for name, tree in trees():
            for node in ast.walk(tree):
                self.assertNotIsInstance(node, ast.Import, name)
                if isinstance(node, ast.ImportFrom):
                    self.assertEqual(node.level, 0, name)
                    self.assertRegex(node.module, r"\Afourtell\.[a-z_]+\Z", name)
                    self.assertIn(node, tree.body, name)
                    self.assertNotIn("*", [alias.name for alias in node.names], name)

    def test_names_are_drawn_from_the_file_that_defines_them(self):
        defined = {}
        for name, tree in trees():
            own = [node for node in tree.body if not isinstance(node, ast.ImportFrom)]
            defined["fourtell." + name[:-3]] = set().union(*(bound_names(node) for node in own))
        for name, tree in trees():
            for node in tree.body:
                if isinstance(node, ast.ImportFrom):
                    for alias in node.names:
                        self.assertIn(alias.name, defined[node.module], name)

    def test_no_two_files_draw_from_one_another(self):
        left = {}
        for name, tree in trees():
            left["fourtell." + name[:-3]] = [node.module for node in tree.body if isinstance(node, ast.ImportFrom)]
        while left:
            free = [name for name in left if not set(left[name]) & set(left)]
            self.assertNotEqual(free, [], sorted(left))
            for name in free:
                del left[name]

    def test_no_text_has_a_percent_sign(self):
        for name, tree in trees():
            for node in ast.walk(tree):
                if isinstance(node, ast.Constant) and isinstance(node.value, str):
                    self.assertNotIn("%", node.value, (name, node.lineno))

    def test_sets_stand_only_within_len_or_sorted(self):
        for name, tree in trees():
            within = []
            for node in ast.walk(tree):
                if isinstance(node, ast.Call) and isinstance(node.func, ast.Name) and node.func.id in ("len", "sorted"):
                    within.extend(node.args)
            for node in ast.walk(tree):
                self.assertNotIsInstance(node, ast.Set, name)
                if isinstance(node, ast.Call) and isinstance(node.func, ast.Name) and node.func.id == "set":
                    self.assertIn(node, within, (name, node.lineno))

    def test_of_pythons_own_names_only_the_allowed_are_read_and_none_is_bound(self):
        for name, tree in trees():
            bound = bound_names(tree)
            self.assertEqual(sorted(bound & OWN_NAMES), [], name)
            for node in ast.walk(tree):
                if isinstance(node, ast.Name):
                    self.assertIn(node.id, bound | OWN_NAMES, (name, node.lineno))

    def test_names_are_plain(self):
        for name, tree in trees():
            for bound in bound_names(tree):
                self.assertRegex(bound, r"\A([A-Za-z][A-Za-z0-9_]*|__(init|eq|repr|str|len)__)\Z", name)

    def test_only_the_allowed_forms_stand_there(self):
        for name, tree in trees():
            for node in ast.walk(tree):
                self.assertIn(type(node).__name__, NODES, (name, getattr(node, "lineno", None)))
                if isinstance(node, ast.Constant):
                    self.assertNotIsInstance(node.value, (float, complex, bytes), name)
                if isinstance(node, ast.Assign):
                    self.assertEqual(len(node.targets), 1, (name, node.lineno))

    def test_only_the_allowed_methods_are_called(self):
        own = set()
        for name, tree in trees():
            for node in ast.walk(tree):
                if isinstance(node, ast.ClassDef):
                    own.update(part.name for part in node.body if isinstance(part, ast.FunctionDef))
        for name, tree in trees():
            for node in ast.walk(tree):
                if isinstance(node, ast.Call) and isinstance(node.func, ast.Attribute):
                    self.assertIn(node.func.attr, METHODS | own, (name, node.lineno))

    def test_sizes_signs_and_words(self):
        for file in files():
            text = file.read_bytes().decode("ascii")
            self.assertRegex(text, r"\A[ -~\n]*\Z", file.name)
            self.assertIsNone(NO_WORDS.search(text), file.name)
            rows = text.split("\n")
            self.assertLessEqual(len(rows), 400, file.name)
            self.assertLessEqual(max(len(row) for row in rows), 120, file.name)

    def test_functions_are_small_and_plain(self):
        for name, tree in trees():
            for node in ast.walk(tree):
                if isinstance(node, ast.FunctionDef):
                    self.assertLessEqual(node.end_lineno - node.lineno + 1, 40, (name, node.name))
                    self.assertEqual(node.decorator_list, [], (name, node.name))
                    self.assertIsNone(node.args.vararg, (name, node.name))
                    self.assertIsNone(node.args.kwarg, (name, node.name))
                    self.assertEqual(node.args.kwonlyargs, [], (name, node.name))


if __name__ == "__main__":
    unittest.main()
