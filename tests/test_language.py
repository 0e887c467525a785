"""Some of the rules for the package's files: what a later change might break without any other test seeing it."""

import ast
import pathlib
import re
import unittest

PACKAGE = pathlib.Path(__file__).resolve().parent.parent / "atomglass"
FILES = sorted(PACKAGE.glob("**/*.py"))
BUILTINS = set(
    "len range enumerate zip min max sum abs sorted reversed int str bool bytes list tuple dict set frozenset "
    "isinstance ord repr any all divmod Exception ValueError TypeError KeyError IndexError LookupError "
    "ZeroDivisionError ArithmeticError OverflowError RuntimeError NotImplementedError AttributeError "
    "StopIteration NotImplemented".split()
)
BARRED = (
    "type|typing|typing_extensions|enum|Enum|IntEnum|StrEnum|Flag|IntFlag|Generic|Protocol|ABC|ABCMeta|namedtuple"
    "|NamedTuple|TypedDict|TYPE_CHECKING|abstractmethod"
)


METHODS_OF_VALUES = set(
    "append clear copy count endswith extend find get index insert isalnum isalpha isdigit islower isspace isupper "
    "items join keys ljust lower lstrip partition pop remove replace reverse rfind rjust rpartition rsplit rstrip "
    "setdefault split splitlines startswith strip update upper values zfill bit_length add discard swapcase".split()
)
UNUSED = set(
    "register mro elements open input version_info with_traceback add_note attrgetter breakpoint builtins compile "
    "copyright credits delattr dir eval exec exit gc getattr globals hasattr help id importlib license locals "
    "methodcaller os quit setattr super type vars sys".split()
)
STATEMENTS = (
    ast.FunctionDef, ast.ClassDef, ast.ImportFrom, ast.Assign, ast.AugAssign, ast.If, ast.While, ast.For, ast.Return,
    ast.Break, ast.Continue, ast.Pass, ast.Raise, ast.Delete, ast.Try, ast.Expr,
)


def trees():
    return [(file.name, ast.parse(file.read_text())) for file in FILES]


def bound_names(tree):
    """All names that a file gives a meaning, at whatever place."""
    names = set()
    for node in ast.walk(tree):
        if isinstance(node, (ast.FunctionDef, ast.ClassDef)):
            names.add(node.name)
        elif isinstance(node, ast.arg):
            names.add(node.arg)
        elif isinstance(node, ast.Name) and isinstance(node.ctx, ast.Store):
            names.add(node.id)
        elif isinstance(node, ast.ImportFrom):
            names.update(alias.name for alias in node.names)
    return names


def methods_and_fields():
    """The names of all methods, and of all attributes that are assigned, in the whole package."""
    methods, fields = set(), set()
    for _, tree in trees():
        for node in ast.walk(tree):
            if isinstance(node, ast.ClassDef):
                methods.update(one.name for one in node.body if isinstance(one, ast.FunctionDef))
            elif isinstance(node, ast.Attribute) and isinstance(node.ctx, ast.Store):
                fields.add(node.attr)
    return methods, fields


# What the document's interface lists: a name that is a method in one class may be an attribute in none.
LISTED_METHODS = set(
    "code names first ways toil ends stop takes kept go back_to pattern put change drop texts all_finds say".split()
)
LISTED_FIELDS = set(
    "at word path most name tree groups begin end spans choices text steps busy entered place made sought".split()
)


class Language(unittest.TestCase):
    def test_the_folder_has_only_python_files(self):
        found = [path.name for path in PACKAGE.iterdir() if path.name != "__pycache__"]
        self.assertEqual(sorted(found), sorted(file.name for file in FILES))
        self.assertIn("__init__.py", found)

    def test_lines_and_signs(self):
        for file in FILES:
            text = file.read_text()
            lines = text.split("\n")
            self.assertLessEqual(len(lines), 400, file.name)
            self.assertLessEqual(max(len(line) for line in lines), 120, file.name)
            self.assertEqual(re.findall(r"[^\n -~]", text), [], file.name)
            self.assertEqual(re.findall(rf"\b(?:{BARRED})\b", text), [], file.name)
            self.assertEqual(re.findall(r"dataclass|overload|contextmanager", text), [], file.name)

    def test_functions_are_short(self):
        for name, tree in trees():
            for node in ast.walk(tree):
                if isinstance(node, ast.FunctionDef):
                    self.assertLessEqual(node.end_lineno - node.lineno + 1, 40, (name, node.name))

    def test_strings_hold_no_percent_sign(self):
        for name, tree in trees():
            for node in ast.walk(tree):
                if isinstance(node, ast.Constant) and isinstance(node.value, str):
                    self.assertNotIn("%", node.value, name)

    def test_imports_are_from_the_package_alone(self):
        for name, tree in trees():
            for node in ast.walk(tree):
                self.assertNotIsInstance(node, ast.Import, name)
                if isinstance(node, ast.ImportFrom):
                    self.assertTrue(node.level == 0 and node.module.startswith("atomglass."), name)

    def test_names_are_own_ones_or_allowed_builtins(self):
        for name, tree in trees():
            known = bound_names(tree) | BUILTINS
            for node in ast.walk(tree):
                if isinstance(node, ast.Name):
                    self.assertIn(node.id, known, name)
            self.assertEqual(bound_names(tree) & BUILTINS, set(), name)

    def test_names_that_are_not_used(self):
        for name, tree in trees():
            self.assertEqual(bound_names(tree) & UNUSED, set(), name)
            for bound in bound_names(tree):
                self.assertFalse(bound.startswith("_") and not bound.endswith("__"), (name, bound))

    def test_statements_and_expressions(self):
        for name, tree in trees():
            for node in ast.walk(tree):
                if isinstance(node, ast.stmt):
                    self.assertIsInstance(node, STATEMENTS, name)
                self.assertNotIsInstance(node, (ast.GeneratorExp, ast.Yield, ast.Div, ast.NamedExpr), name)
                if isinstance(node, ast.Constant):
                    self.assertNotIsInstance(node.value, (float, complex), name)
                if isinstance(node, ast.Compare) and isinstance(node.ops[0], (ast.Is, ast.IsNot)):
                    self.assertIsInstance(node.comparators[0], ast.Constant, name)
                    self.assertIn(node.comparators[0].value, (None, True, False), name)

    def test_methods_are_own_ones_or_allowed_ones(self):
        methods, _ = methods_and_fields()
        for name, tree in trees():
            for node in ast.walk(tree):
                if isinstance(node, ast.Call) and isinstance(node.func, ast.Attribute):
                    self.assertIn(node.func.attr, methods | METHODS_OF_VALUES, name)

    def test_own_methods_have_names_of_their_own(self):
        # Whatever a value of Python's has as a method or an attribute would be mistaken for it.
        taken = set()
        for value in ("", 0, [], {}, set(), b"", ()):
            taken.update(dir(value))
        methods, fields = methods_and_fields()
        self.assertEqual({one for one in methods | fields if not one.startswith("__")} & taken, set())

    def test_no_name_is_both_a_method_and_an_attribute(self):
        methods, fields = methods_and_fields()
        self.assertEqual((methods | LISTED_METHODS) & (fields | LISTED_FIELDS), set())

    def test_nothing_is_sorted_in_its_place(self):
        # Way has an own ==.
        for name, tree in trees():
            for node in ast.walk(tree):
                self.assertFalse(isinstance(node, ast.Attribute) and node.attr == "sort", name)

    def test_any_all_and_the_like_take_lists(self):
        # Way has an own ==: so these may not take a generator expression.
        for name, tree in trees():
            for node in ast.walk(tree):
                if isinstance(node, ast.Call) and isinstance(node.func, ast.Name):
                    if node.func.id in ("any", "all", "min", "max", "sum", "sorted"):
                        self.assertFalse([one for one in node.args if isinstance(one, ast.GeneratorExp)], name)


if __name__ == "__main__":
    unittest.main()
