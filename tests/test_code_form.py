"""The tests of the form of the package's files: sizes, characters, imports and names."""

import ast
import builtins
import pathlib
import unittest

PACKAGE = pathlib.Path(__file__).resolve().parent.parent / "inputways"
LIBRARY = ("heapq", "math", "itertools", "collections")
# Names of methods of builtin values that methods or attributes of the package may have, too.
FREE = ("values", "count")


def sources():
    """A list of the path, the text and the syntax tree of each file of the package."""
    paths = sorted(PACKAGE.rglob("*.py"))
    return [(path, path.read_text(), ast.parse(path.read_text())) for path in paths]


class CodeFormTest(unittest.TestCase):

    def test_files_and_lines_are_short_and_plain(self):
        for path, text, _ in sources():
            lines = text.split("\n")
            self.assertLessEqual(len(lines), 400, path)
            for line in lines:
                self.assertLessEqual(len(line), 120, (path, line))
                self.assertTrue(all(" " <= sign <= "~" for sign in line), (path, line))

    def test_functions_are_short(self):
        for path, _, tree in sources():
            for node in ast.walk(tree):
                if isinstance(node, ast.FunctionDef):
                    self.assertLessEqual(node.end_lineno - node.lineno + 1, 40, (path, node.name))

    def test_imports_name_the_package_or_the_allowed_library(self):
        for path, _, tree in sources():
            for node in ast.walk(tree):
                self.assertNotIsInstance(node, ast.Import, path)
                if isinstance(node, ast.ImportFrom):
                    self.assertEqual(node.level, 0, path)
                    self.assertTrue(node.module.startswith("inputways.") or node.module in LIBRARY, path)

    def test_no_method_or_attribute_has_the_name_of_one_of_a_builtin_value(self):
        taken = {name for kind in (str, int, list, dict, set, bytes, tuple) for name in dir(kind)} - {"__init__"}
        for path, _, tree in sources():
            for node in ast.walk(tree):
                names = [part.name for part in node.body if isinstance(part, ast.FunctionDef)] if isinstance(node, ast.ClassDef) else []
                if isinstance(node, ast.Attribute) and isinstance(node.ctx, ast.Store):
                    names.append(node.attr)
                for name in names:
                    self.assertTrue(name in FREE or name not in taken, (path, name))

    def test_no_name_is_that_of_a_builtin(self):
        for path, _, tree in sources():
            for node in ast.walk(tree):
                name = None
                if isinstance(node, ast.Name) and isinstance(node.ctx, ast.Store):
                    name = node.id
                elif isinstance(node, ast.arg):
                    name = node.arg
                elif isinstance(node, (ast.FunctionDef, ast.ClassDef)) and node.col_offset == 0:
                    name = node.name
                self.assertFalse(name is not None and hasattr(builtins, name), (path, name))


if __name__ == "__main__":
    unittest.main()
