"""Some of the rules of form (LANGUAGE.md) that can be looked at without running the program."""

import ast
import pathlib
import re
import unittest

PACKAGE = pathlib.Path(__file__).resolve().parent.parent / "sipstack"

BARRED = re.compile(
    r"\b(type|typing|typing_extensions|enum|Enum|IntEnum|StrEnum|Flag|IntFlag|Generic|Protocol|ABC|ABCMeta"
    r"|namedtuple|NamedTuple|TypedDict|TYPE_CHECKING|abstractmethod)\b"
    r"|dataclass|overload|contextmanager"
)


def sources():
    return sorted(PACKAGE.glob("*.py"))


def nodes(kinds):
    for path in sources():
        for node in ast.walk(ast.parse(path.read_text(encoding="ascii"))):
            if isinstance(node, kinds):
                yield path.name, node


class Form(unittest.TestCase):
    def test_the_folder_holds_only_plainly_named_sources(self):
        for path in PACKAGE.iterdir():
            if path.name != "__pycache__":
                self.assertRegex(path.name, r"\A[a-z0-9_]+\.py\Z")
        self.assertIn("__init__.py", [path.name for path in sources()])

    def test_characters_and_lengths_of_lines_and_files(self):
        for path in sources():
            text = path.read_bytes().decode("ascii")
            self.assertRegex(text, r"\A[\n -~]*\Z", path.name)
            self.assertLessEqual(text.count("\n"), 399, path.name)
            self.assertLessEqual(max(len(line) for line in text.split("\n")), 120, path.name)

    def test_functions_are_short(self):
        for name, node in nodes(ast.FunctionDef):
            self.assertLessEqual(node.end_lineno - node.lineno + 1, 40, (name, node.name))

    def test_imports_come_from_the_package_alone(self):
        for name, node in nodes((ast.Import, ast.ImportFrom)):
            self.assertIsInstance(node, ast.ImportFrom, name)
            self.assertEqual(node.level, 0, name)
            self.assertRegex(node.module, r"\Asipstack\.[a-z0-9_]+\Z", name)
            self.assertNotIn("*", [alias.name for alias in node.names], name)

    def test_no_barred_word(self):
        for path in sources():
            found = BARRED.search(path.read_text(encoding="ascii"))
            self.assertIsNone(found, (path.name, found))

    def test_no_name_begins_with_an_underscore(self):
        for name, node in nodes((ast.FunctionDef, ast.ClassDef)):
            self.assertRegex(node.name, r"\A([A-Za-z]|__)", name)
        for name, node in nodes((ast.Name, ast.arg)):
            self.assertRegex(node.id if isinstance(node, ast.Name) else node.arg, r"\A([A-Za-z]|__[a-z]+__\Z)", name)


if __name__ == "__main__":
    unittest.main()
