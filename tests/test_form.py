"""Point 1, the interface and some rules of the language: what the files of the package may look like."""

import ast
import inspect
import pathlib
import unittest
import warnings

import lookvoice
from lookvoice import books, errors, holding

FOLDER = pathlib.Path(lookvoice.__file__).parent
FILES = sorted(path for path in FOLDER.rglob("*") if path.is_file() and "__pycache__" not in path.parts)
LIBRARY = ("heapq", "math", "itertools", "collections")
BARRED_NAMES = ("open", "print", "input", "eval", "exec", "compile", "globals", "vars", "id", "hash", "type")
BARRED_NODES = (ast.AsyncFunctionDef, ast.AsyncFor, ast.AsyncWith, ast.Await, ast.Global, ast.Div, ast.Import)


def nodes(kind):
    """All nodes of a kind, in all files."""
    for path in FILES:
        for node in ast.walk(ast.parse(path.read_text(encoding="utf-8"))):
            if isinstance(node, kind):
                yield node


class Files(unittest.TestCase):
    def test_only_python_files_with_plain_characters(self):
        self.assertIn("__init__.py", [path.name for path in FILES])
        for path in FILES:
            self.assertEqual(path.suffix, ".py")
            text = path.read_text(encoding="utf-8")
            self.assertTrue(all(one == "\n" or " " <= one <= "~" for one in text), path)

    def test_sizes(self):
        for path in FILES:
            lines = path.read_text(encoding="utf-8").split("\n")
            self.assertLessEqual(len(lines), 399, path)
            self.assertLessEqual(max(len(line) for line in lines), 120, path)
        for node in nodes(ast.FunctionDef):
            self.assertLessEqual(node.end_lineno - node.lineno + 1, 40, node.name)

    def test_no_warnings(self):
        for path in FILES:
            with warnings.catch_warnings():
                warnings.simplefilter("error")
                compile(path.read_text(encoding="utf-8"), str(path), "exec")


class Language(unittest.TestCase):
    def test_no_clock_no_random_numbers_and_no_files(self):
        for node in nodes(ast.ImportFrom):
            self.assertEqual(node.level, 0)
            self.assertTrue(node.module in LIBRARY or node.module.startswith("lookvoice."), node.module)
        for node in nodes(ast.Name):
            self.assertNotIn(node.id, BARRED_NAMES)

    def test_barred_statements_and_values(self):
        self.assertEqual([ast.dump(node) for node in nodes(BARRED_NODES)], [])
        for node in nodes(ast.Constant):
            self.assertNotIsInstance(node.value, (float, complex))

    def test_decorators(self):
        for node in nodes((ast.FunctionDef, ast.ClassDef)):
            for decorator in node.decorator_list:
                self.assertIn(ast.unparse(decorator), ("property", "staticmethod", "classmethod"))

    def test_no_star_in_an_index(self):
        for node in nodes(ast.Subscript):
            self.assertFalse(any(isinstance(part, ast.Starred) for part in ast.walk(node.slice)), ast.unparse(node))


class Interface(unittest.TestCase):
    def test_each_is_defined_in_its_file(self):
        self.assertEqual(books.Book.__module__, "lookvoice.books")
        self.assertEqual(holding.Held.__module__, "lookvoice.holding")
        self.assertEqual(holding.without.__module__, "lookvoice.holding")

    def test_names_of_arguments(self):
        expected = [
            (books.Book, ["given", "rules"]), (holding.Held, ["book", "rule"]), (holding.without, ["book", "rules"]),
            (books.Book.answers, ["self", "note"]), (books.Book.after, ["self", "last", "note"]),
            (errors.BadName, ["name"]), (errors.Silent, ["voice"]),
        ]
        for called, names in expected:
            self.assertEqual(list(inspect.signature(called).parameters), names)
        self.assertEqual(inspect.signature(books.Book).parameters["rules"].default, ())

    def test_methods_stand_in_the_class_itself(self):
        for name in ("pairs", "rules", "answers", "after", "__contains__", "__le__"):
            self.assertIn(name, vars(books.Book))
        for name in ("__enter__", "__exit__"):
            self.assertIn(name, vars(holding.Held))

    def test_pairs_and_rules_are_properties(self):
        self.assertIsInstance(vars(books.Book)["pairs"], property)
        self.assertIsInstance(vars(books.Book)["rules"], property)


if __name__ == "__main__":
    unittest.main()
