"""The form of the package's files, as far as a look at them can tell."""

import ast
import os
import re
import unittest

ROOT = os.path.dirname(os.path.dirname(os.path.abspath(__file__)))
PACKAGE = os.path.join(ROOT, "downpass")
LIBRARY = ("heapq", "math", "itertools", "collections")
BARRED = re.compile(
    r"\b(typing|typing_extensions|enum|Enum|IntEnum|StrEnum|Flag|IntFlag|Generic|Protocol|ABC|ABCMeta"
    r"|namedtuple|NamedTuple|TypedDict|TYPE_CHECKING|abstractmethod|eval|exec|global|async)\b"
    r"|dataclass|overload|contextmanager|_wall")


def sources():
    """The name and the text of each file of the package."""
    found = []
    for name in sorted(os.listdir(PACKAGE)):
        if name != "__pycache__":
            with open(os.path.join(PACKAGE, name), encoding="utf-8", newline="") as file:
                found.append((name, file.read()))
    return found


class Form(unittest.TestCase):

    def test_names_of_files(self):
        names = [name for name, _ in sources()]
        self.assertIn("__init__.py", names)
        for name in names:
            self.assertTrue(name == "__init__.py" or re.fullmatch(r"[a-z][a-z0-9_]*\.py", name), name)
            self.assertFalse(name.startswith("test"), name)

    def test_characters_and_sizes(self):
        for name, text in sources():
            self.assertTrue(all(letter == "\n" or " " <= letter <= "~" for letter in text), name)
            lines = text.split("\n")
            self.assertLessEqual(len(lines), 400, name)
            for line in lines:
                self.assertLessEqual(len(line), 120, (name, line))

    def test_sizes_of_functions(self):
        for name, text in sources():
            for node in ast.walk(ast.parse(text)):
                if isinstance(node, ast.FunctionDef):
                    self.assertLessEqual(node.end_lineno - node.lineno + 1, 40, (name, node.name))

    def test_imports(self):
        for name, text in sources():
            for node in ast.walk(ast.parse(text)):
                self.assertNotIsInstance(node, ast.Import, name)
                if isinstance(node, ast.ImportFrom):
                    self.assertEqual(node.level, 0, name)
                    known = node.module.startswith("downpass.") or node.module in LIBRARY
                    self.assertTrue(known, (name, node.module))
                    self.assertTrue(all(alias.asname is None for alias in node.names), name)

    def test_words_that_are_not_used(self):
        for name, text in sources():
            self.assertIsNone(BARRED.search(text), name)

    def test_statements_and_values_that_are_not_used(self):
        barred = (ast.Global, ast.AsyncFunctionDef, ast.Await, ast.Div)
        for name, text in sources():
            for node in ast.walk(ast.parse(text)):
                self.assertNotIsInstance(node, barred, name)
                if isinstance(node, ast.Constant):
                    self.assertNotIsInstance(node.value, (float, complex), name)

    def test_module_level(self):
        allowed = (ast.ImportFrom, ast.FunctionDef, ast.ClassDef, ast.Assign)
        for name, text in sources():
            for node in ast.parse(text).body:
                docstring = isinstance(node, ast.Expr) and isinstance(node.value, ast.Constant)
                self.assertTrue(docstring or isinstance(node, allowed), (name, node.lineno))

    def test_each_function_and_class_tells_what_it_is_for(self):
        for name, text in sources():
            tree = ast.parse(text)
            self.assertTrue(ast.get_docstring(tree), name)
            for node in ast.walk(tree):
                if isinstance(node, (ast.FunctionDef, ast.ClassDef)) and not node.name.startswith("__"):
                    self.assertTrue(ast.get_docstring(node), (name, node.name))


if __name__ == "__main__":
    unittest.main()
