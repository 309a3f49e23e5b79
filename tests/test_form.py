"""Some of the rules of form (LANGUAGE.md) that can be looked at without running the program."""

import ast
import builtins
import pathlib
import re
import unittest

PACKAGE = pathlib.Path(__file__).resolve().parent.parent / "sipstack"

BARRED = re.compile(
    r"\b(type|typing|typing_extensions|enum|Enum|IntEnum|StrEnum|Flag|IntFlag|Generic|Protocol|ABC|ABCMeta"
    r"|namedtuple|NamedTuple|TypedDict|TYPE_CHECKING|abstractmethod)\b"
    r"|dataclass|overload|contextmanager"
)

BUILTINS = (
    "len range enumerate zip min max sum abs sorted reversed int str bool list tuple dict set frozenset isinstance "
    "ord repr any all divmod iter next super Exception ValueError TypeError KeyError IndexError LookupError "
    "ZeroDivisionError ArithmeticError OverflowError RuntimeError NotImplementedError AttributeError StopIteration "
    "NotImplemented"
).split()

METHODS_OF_VALUES = (
    "append clear copy count endswith extend find get index insert isalnum isalpha isdigit islower isspace isupper "
    "items join keys ljust lower lstrip partition pop remove replace reverse rfind rjust rpartition rsplit rstrip "
    "setdefault split splitlines startswith strip update upper values zfill bit_length"
).split()

DOUBLE = "__init__ __eq__ __repr__ __str__ __len__".split()

KINDS_OF_VALUES = (str, int, list, dict, set, bytes, tuple)


def sources():
    return sorted(PACKAGE.glob("*.py"))


def nodes(kinds):
    for path in sources():
        for node in ast.walk(ast.parse(path.read_text(encoding="ascii"))):
            if isinstance(node, kinds):
                yield path.name, node


def methods():
    """(the file's name, the method's node) of each method of the package."""
    for name, owner in nodes(ast.ClassDef):
        for node in owner.body:
            if isinstance(node, ast.FunctionDef):
                yield name, node


def stored_attributes():
    return {node.attr for _, node in nodes(ast.Attribute) if isinstance(node.ctx, ast.Store)}


def names_within(function):
    """Parameters and local variables of a function."""
    for node in ast.walk(function):
        if isinstance(node, ast.arg):
            yield node.arg
        elif isinstance(node, ast.Name) and isinstance(node.ctx, ast.Store):
            yield node.id
        elif isinstance(node, ast.ExceptHandler) and node.name:
            yield node.name


class Form(unittest.TestCase):
    def test_the_folder_holds_only_plainly_named_sources(self):
        for path in PACKAGE.iterdir():
            if path.name != "__pycache__":
                self.assertRegex(path.name, r"\A[a-z0-9_]+\.py\Z")
        self.assertIn("__init__.py", [path.name for path in sources()])

    def test_characters_and_lengths_of_lines_and_files(self):
        for path in sources():
            text = path.read_bytes().decode("ascii")
            self.assertRegex(text, r"\A[\n -~]*\Z", path.name)
            self.assertLessEqual(text.count("\n"), 399, path.name)
            self.assertLessEqual(max(len(line) for line in text.split("\n")), 120, path.name)

    def test_functions_are_short(self):
        for name, node in nodes(ast.FunctionDef):
            self.assertLessEqual(node.end_lineno - node.lineno + 1, 40, (name, node.name))

    def test_imports_come_from_the_package_alone(self):
        for name, node in nodes((ast.Import, ast.ImportFrom)):
            self.assertIsInstance(node, ast.ImportFrom, name)
            self.assertEqual(node.level, 0, name)
            self.assertRegex(node.module, r"\Asipstack\.[a-z0-9_]+\Z", name)
            self.assertNotIn("*", [alias.name for alias in node.names], name)

    def test_no_barred_word(self):
        for path in sources():
            found = BARRED.search(path.read_text(encoding="ascii"))
            self.assertIsNone(found, (path.name, found))

    def test_no_name_begins_with_an_underscore(self):
        for name, node in nodes((ast.FunctionDef, ast.ClassDef)):
            self.assertRegex(node.name, r"\A([A-Za-z]|__)", name)
        for name, node in nodes((ast.Name, ast.arg)):
            self.assertRegex(node.id if isinstance(node, ast.Name) else node.arg, r"\A([A-Za-z]|__[a-z]+__\Z)", name)

    def test_only_listed_builtins(self):
        for name, node in nodes(ast.Name):
            if hasattr(builtins, node.id):
                self.assertIn(node.id, BUILTINS, (name, node.lineno))
                self.assertIsInstance(node.ctx, ast.Load, (name, node.lineno))

    def test_no_name_within_a_function_hides_a_builtin_a_class_or_an_import(self):
        for path in sources():
            tree = ast.parse(path.read_text(encoding="ascii"))
            imported = {alias.name for node in ast.walk(tree) if isinstance(node, ast.ImportFrom) for alias in node.names}
            classes = {node.name for node in tree.body if isinstance(node, ast.ClassDef)}
            for function in ast.walk(tree):
                if isinstance(function, ast.FunctionDef):
                    for name in names_within(function):
                        self.assertFalse(hasattr(builtins, name), (path.name, name))
                        self.assertNotIn(name, imported | classes, path.name)

    def test_no_name_is_a_method_and_an_attribute(self):
        self.assertEqual({node.name for _, node in methods()} & stored_attributes(), set())

    def test_attributes_that_are_read_are_assigned_or_methods(self):
        known = stored_attributes() | {node.name for _, node in methods()} | set(METHODS_OF_VALUES)
        for name, node in nodes(ast.Attribute):
            self.assertIn(node.attr, known, (name, node.lineno))

    def test_own_methods_and_attributes_have_no_names_of_builtin_values(self):
        taken = {name for kind in KINDS_OF_VALUES for name in dir(kind)} - set(METHODS_OF_VALUES) - {"add", "discard"}
        for name, node in methods():
            if node.name not in DOUBLE:
                self.assertNotIn(node.name, taken, name)
        self.assertEqual(stored_attributes() & taken - {"title"}, set())

    def test_is_stands_beside_none_and_truths_alone(self):
        for name, node in nodes(ast.Compare):
            for sign, right in zip(node.ops, node.comparators):
                if isinstance(sign, (ast.Is, ast.IsNot)):
                    self.assertIsInstance(right, ast.Constant, (name, node.lineno))
                    self.assertIn(right.value, (None, True, False))

    def test_barred_statements_and_expressions(self):
        barred = (
            ast.Global, ast.AsyncFunctionDef, ast.Await, ast.GeneratorExp, ast.Div, ast.MatMult, ast.Set, ast.SetComp,
            ast.Yield, ast.YieldFrom,
        )
        self.assertEqual([(name, node.lineno) for name, node in nodes(barred)], [])
        for name, node in nodes(ast.Constant):
            self.assertNotIsInstance(node.value, (float, complex), (name, node.lineno))
            if isinstance(node.value, str):
                self.assertNotIn("%", node.value, (name, node.lineno))

    def test_module_level(self):
        for path in sources():
            for node in ast.parse(path.read_text(encoding="ascii")).body:
                if isinstance(node, ast.Expr):
                    self.assertIsInstance(node.value, ast.Constant, (path.name, node.lineno))
                else:
                    kinds = (ast.ImportFrom, ast.FunctionDef, ast.ClassDef, ast.Assign)
                    self.assertIsInstance(node, kinds, (path.name, node.lineno))


if __name__ == "__main__":
    unittest.main()
