"""Point 1, the interface and some rules of the language: what the files of the package may look like."""

import ast
import builtins
import inspect
import pathlib
import unittest
import warnings

import lookvoice
from lookvoice import (
    books, comparing, errors, holding, notation, outlooks, playing, relations, verdicts, voices, windows,
)

FOLDER = pathlib.Path(lookvoice.__file__).parent
FILES = sorted(path for path in FOLDER.rglob("*") if path.is_file() and "__pycache__" not in path.parts)
LIBRARY = ("heapq", "math", "itertools", "collections")
ITERATING = ("list", "tuple", "dict", "sorted", "sum", "any", "all", "enumerate", "zip")
METHODS = [
    "append", "clear", "copy", "count", "extend", "find", "get", "index", "insert", "isalnum", "isascii", "items",
    "join", "keys", "pop", "remove", "reverse", "setdefault", "split", "startswith", "strip", "update", "values",
    "bit_length",
]
FUNCTIONS_OF_THE_LANGUAGE = [
    "len", "range", "enumerate", "zip", "min", "max", "sum", "abs", "sorted", "reversed", "int", "str", "bool", "list",
    "tuple", "dict", "isinstance", "repr", "any", "all", "super",
]
BARRED_NAMES = ("open", "print", "input", "eval", "exec", "compile", "globals", "vars", "id", "hash", "type")
BARRED_NODES = (ast.AsyncFunctionDef, ast.AsyncFor, ast.AsyncWith, ast.Await, ast.Global, ast.Div, ast.Import)


def nodes(kind):
    """All nodes of a kind, in all files."""
    for path in FILES:
        for node in ast.walk(ast.parse(path.read_text(encoding="utf-8"))):
            if isinstance(node, kind):
                yield node


class Files(unittest.TestCase):
    def test_only_python_files_with_plain_characters(self):
        self.assertIn("__init__.py", [path.name for path in FILES])
        for path in FILES:
            self.assertEqual(path.suffix, ".py")
            text = path.read_text(encoding="utf-8")
            self.assertTrue(all(one == "\n" or " " <= one <= "~" for one in text), path)

    def test_sizes(self):
        for path in FILES:
            lines = path.read_text(encoding="utf-8").split("\n")
            self.assertLessEqual(len(lines), 399, path)
            self.assertLessEqual(max(len(line) for line in lines), 120, path)
        for node in nodes(ast.FunctionDef):
            self.assertLessEqual(node.end_lineno - node.lineno + 1, 40, node.name)

    def test_no_warnings(self):
        for path in FILES:
            with warnings.catch_warnings():
                warnings.simplefilter("error")
                compile(path.read_text(encoding="utf-8"), str(path), "exec")


class Language(unittest.TestCase):
    def test_no_clock_no_random_numbers_and_no_files(self):
        for node in nodes(ast.ImportFrom):
            self.assertEqual(node.level, 0)
            self.assertTrue(node.module in LIBRARY or node.module.startswith("lookvoice."), node.module)
        for node in nodes(ast.Name):
            self.assertNotIn(node.id, BARRED_NAMES)

    def test_barred_statements_and_values(self):
        self.assertEqual([ast.dump(node) for node in nodes(BARRED_NODES)], [])
        for node in nodes(ast.Constant):
            self.assertNotIsInstance(node.value, (float, complex))

    def test_decorators(self):
        for node in nodes((ast.FunctionDef, ast.ClassDef)):
            for decorator in node.decorator_list:
                self.assertIn(ast.unparse(decorator), ("property", "staticmethod", "classmethod"))

    def test_sorted_takes_plain_numbers(self):
        # A book has an order and no equality, so only what is plainly a number may be compared.
        for node in nodes(ast.Call):
            self.assertNotEqual(getattr(node.func, "attr", None), "sort")
            if getattr(node.func, "id", None) == "sorted":
                self.assertIsInstance(node.args[0], ast.ListComp)
                self.assertEqual(ast.unparse(node.args[0].elt.func), "int")

    def test_what_is_iterated_at_once(self):
        iterated = []
        for node in nodes((ast.For, ast.comprehension)):
            iterated.append(ast.unparse(node.iter))
        for node in nodes(ast.Call):
            if getattr(node.func, "id", None) in ITERATING:
                iterated.extend(ast.unparse(part) for part in node.args[:1])
        for node in nodes(ast.Call):
            name = getattr(node.func, "id", getattr(node.func, "attr", None))
            if name in ("range", "zip", "enumerate", "reversed", "items", "keys", "values"):
                self.assertIn(ast.unparse(node), iterated)

    def test_methods_of_builtin_values(self):
        own = [node.name for node in nodes(ast.FunctionDef)]
        for node in nodes(ast.Call):
            if isinstance(node.func, ast.Attribute):
                self.assertIn(node.func.attr, METHODS + own + ["__init__"])

    def test_functions_of_the_language(self):
        for path in FILES:
            tree = ast.parse(path.read_text(encoding="utf-8"))
            own = [node.name for node in ast.walk(tree) if isinstance(node, (ast.FunctionDef, ast.ClassDef))]
            own += [alias.name for node in tree.body if isinstance(node, ast.ImportFrom) for alias in node.names]
            own += [node.arg for node in ast.walk(tree) if isinstance(node, ast.arg)]
            for node in ast.walk(tree):
                if isinstance(node, ast.Call) and isinstance(node.func, ast.Name):
                    self.assertIn(node.func.id, FUNCTIONS_OF_THE_LANGUAGE + own, path)

    def test_is_only_with_none(self):
        for node in nodes(ast.Compare):
            for sign, part in zip(node.ops, node.comparators):
                if isinstance(sign, (ast.Is, ast.IsNot)):
                    self.assertIn(ast.unparse(part), ("None", "True", "False"))

    def test_least_and_greatest_of_plain_numbers(self):
        for node in nodes(ast.Call):
            if getattr(node.func, "id", None) in ("min", "max") and len(node.args) == 1:
                self.assertIsInstance(node.args[0], ast.ListComp)
                self.assertEqual(ast.unparse(node.args[0].elt.func), "int")

    def test_no_local_name_is_that_of_an_import_or_a_class(self):
        for path in FILES:
            tree = ast.parse(path.read_text(encoding="utf-8"))
            taken = [node.name for node in tree.body if isinstance(node, ast.ClassDef)]
            taken += [alias.name for node in tree.body if isinstance(node, ast.ImportFrom) for alias in node.names]
            for node in ast.walk(tree):
                if isinstance(node, ast.arg):
                    self.assertNotIn(node.arg, taken, path)
                if isinstance(node, ast.Name) and isinstance(node.ctx, ast.Store):
                    self.assertNotIn(node.id, taken, path)

    def test_no_name_is_that_of_a_builtin(self):
        for path in FILES:
            for node in ast.walk(ast.parse(path.read_text(encoding="utf-8"))):
                if isinstance(node, ast.arg):
                    self.assertFalse(hasattr(builtins, node.arg), node.arg)
                if isinstance(node, ast.Name) and isinstance(node.ctx, ast.Store):
                    self.assertFalse(hasattr(builtins, node.id), node.id)

    def test_imports_in_one_direction(self):
        found = {}
        for path in FILES:
            tree = ast.parse(path.read_text(encoding="utf-8"))
            modules = [node.module for node in tree.body if isinstance(node, ast.ImportFrom)]
            found[f"lookvoice.{path.stem}"] = [name for name in modules if name.startswith("lookvoice.")]
        while found:
            free = [name for name in found if not any(used in found for used in found[name])]
            self.assertNotEqual(free, [])
            found = {name: found[name] for name in found if name not in free}

    def test_no_star_in_an_index(self):
        for node in nodes(ast.Subscript):
            self.assertFalse(any(isinstance(part, ast.Starred) for part in ast.walk(node.slice)), ast.unparse(node))


FUNCTIONS = [
    (holding, "without", ["book", "rules"]),
    (notation, "parse_book", ["text"]),
    (notation, "write_book", ["book"]),
    (relations, "identity", ["size"]),
    (voices, "behaviour", ["book", "voice"]),
    (voices, "is_unbroken", ["book", "piece"]),
    (voices, "answer", ["book", "voice"]),
    (voices, "silent_voice", ["book"]),
    (comparing, "parting", ["first", "second"]),
    (comparing, "used_rules", ["book"]),
    (comparing, "trimmed", ["book"]),
    (comparing, "spare_rules", ["book"]),
    (windows, "settle", ["book", "ahead"]),
    (outlooks, "outlook", ["book"]),
    (playing, "play", ["giver", "answerer", "ahead", "limit"]),
    (verdicts, "judge", ["book", "most"]),
    (verdicts, "judge_without", ["book", "rules", "most"]),
]

CLASSES = [
    (books, "Book", ["given", "rules"], ["pairs", "rules", "answers", "after", "__contains__", "__le__"]),
    (holding, "Held", ["book", "rule"], ["__enter__", "__exit__"]),
    (relations, "Relation", ["rows"], ["__or__", "__and__", "__mul__", "__contains__", "reach"]),
    (playing, "Singer", ["voice"], ["__call__"]),
]

# What makes these is the program's own business.
OTHER_CLASSES = [
    (windows, "Hearing", []),
    (windows, "TableAnswerer", ["__call__", "table"]),
    (windows, "TableGiver", ["__call__"]),
    (outlooks, "Outlook", []),
    (outlooks, "BlockAnswerer", ["__call__", "safe"]),
    (outlooks, "Rings", ["blocks", "moves", "against"]),
    (outlooks, "RingGiver", ["__call__"]),
    (verdicts, "Verdict", []),
]


def arguments(called):
    return list(inspect.signature(called).parameters)


class Interface(unittest.TestCase):
    def test_functions(self):
        for module, name, names in FUNCTIONS:
            found = getattr(module, name)
            self.assertTrue(inspect.isfunction(found), name)
            self.assertEqual(found.__module__, module.__name__)
            self.assertEqual(arguments(found), names)

    def test_classes_and_methods_in_the_class_itself(self):
        for module, name, names, methods in CLASSES:
            found = getattr(module, name)
            self.assertTrue(inspect.isclass(found), name)
            self.assertEqual(found.__module__, module.__name__)
            self.assertEqual(arguments(found), names)
            for method in methods:
                self.assertIn(method, vars(found))

    def test_classes_that_are_not_made_by_callers(self):
        for module, name, methods in OTHER_CLASSES:
            found = getattr(module, name)
            self.assertTrue(inspect.isclass(found), name)
            self.assertEqual(found.__module__, module.__name__)
            for method in methods:
                self.assertIn(method, vars(found))

    def test_arguments_that_are_passed_by_name_only(self):
        for called, name, usual in ((windows.settle, "ahead", inspect.Parameter.empty),
                                    (playing.play, "ahead", inspect.Parameter.empty), (playing.play, "limit", 60),
                                    (verdicts.judge, "most", 3), (verdicts.judge_without, "most", 3)):
            found = inspect.signature(called).parameters[name]
            self.assertEqual((found.kind, found.default), (inspect.Parameter.KEYWORD_ONLY, usual))

    def test_arguments_of_callable_objects(self):
        for answerer in (windows.TableAnswerer, outlooks.BlockAnswerer):
            self.assertEqual(arguments(answerer.__call__), ["self", "piece", "window"])
        for giver in (windows.TableGiver, outlooks.RingGiver, playing.Singer):
            self.assertEqual(arguments(giver.__call__), ["self", "piece", "voice"])

    def test_arguments_of_methods_and_errors(self):
        self.assertEqual(arguments(windows.TableAnswerer.table), ["self"])
        self.assertEqual(arguments(outlooks.BlockAnswerer.safe), ["self", "block"])
        self.assertEqual(arguments(outlooks.Rings.against), ["self", "ahead"])
        self.assertEqual(arguments(books.Book.answers), ["self", "note"])
        self.assertEqual(arguments(books.Book.after), ["self", "last", "note"])
        self.assertEqual(arguments(relations.Relation.reach), ["self", "places"])
        self.assertEqual(arguments(errors.BadName), ["name"])
        self.assertEqual(arguments(errors.Silent), ["voice"])
        self.assertEqual(inspect.signature(books.Book).parameters["rules"].default, ())

    def test_properties(self):
        for found, name in ((books.Book, "pairs"), (books.Book, "rules"), (outlooks.Rings, "blocks"),
                            (outlooks.Rings, "moves")):
            self.assertIsInstance(vars(found)[name], property)

    def test_playing_is_a_generator(self):
        self.assertTrue(inspect.isgeneratorfunction(playing.play))


if __name__ == "__main__":
    unittest.main()
