"""Some rules of the language, as far as they can be read off the files of the package."""

import ast
import builtins
import inspect
import pathlib
import string
import unittest

import stacksamples.bodies
import stacksamples.closures
import stacksamples.errors
import stacksamples.programs

FOLDER = pathlib.Path(stacksamples.programs.__file__).parent
ALLOWED = set(string.printable) - set("\t\r\x0b\x0c")
BUILTINS = """
    len range enumerate zip min max sum abs sorted reversed int str bool list tuple dict set isinstance ord repr any all
    divmod iter next map ValueError KeyError IndexError NotImplemented
""".split()
INTERFACE = {
    stacksamples.programs: {
        "is_program": ["value"], "callees": ["program", "name"], "reached": ["program"],
        "shortest_call": ["program", "name"], "is_word": ["program", "name", "word"],
        "is_start": ["program", "name", "word"],
    },
    stacksamples.closures: {
        "is_part": ["program", "name", "word"], "full_word": ["program", "name", "word"],
        "products_of": ["program", "name"], "word_in": ["products", "word"], "includes": ["products", "other"],
        "reduced": ["products"], "is_repeatable": ["program", "name", "callee"],
    },
}


class Language(unittest.TestCase):
    def each_file(self):
        texts = [(path.name, path.read_text()) for path in sorted(FOLDER.glob("*.py"))]
        return [(name, text, ast.parse(text, name)) for name, text in texts]

    def test_only_python_files(self):
        found = [path.name for path in FOLDER.iterdir() if path.suffix != ".py" and path.name != "__pycache__"]
        self.assertEqual(found, [])
        self.assertTrue((FOLDER / "__init__.py").exists())

    def test_sizes_and_signs(self):
        for name, text, tree in self.each_file():
            self.assertLessEqual(len(text.splitlines()), 399, name)
            self.assertLessEqual(max(len(line) for line in text.splitlines()), 120, name)
            self.assertLessEqual(set(text), ALLOWED, name)
            for node in ast.walk(tree):
                if isinstance(node, ast.FunctionDef):
                    self.assertLessEqual(node.end_lineno - node.lineno + 1, 40, node.name)

    def test_imports_only_the_package(self):
        for _, _, tree in self.each_file():
            for node in ast.walk(tree):
                self.assertNotIsInstance(node, ast.Import)
                if isinstance(node, ast.ImportFrom):
                    self.assertEqual((node.level, node.module.split(".")[0]), (0, "stacksamples"))

    def test_statements_at_module_level(self):
        kinds = (ast.ImportFrom, ast.FunctionDef, ast.ClassDef, ast.Assign, ast.Expr)
        for _, _, tree in self.each_file():
            for node in tree.body:
                self.assertIsInstance(node, kinds)
                if isinstance(node, (ast.Expr, ast.Assign)):
                    self.assertIsInstance(node.value, ast.Constant)

    def test_what_is_left_out(self):
        barred = (ast.Import, ast.AsyncFunctionDef, ast.Await, ast.Div)
        for name, _, tree in self.each_file():
            for node in ast.walk(tree):
                self.assertNotIsInstance(node, barred, name)
                if isinstance(node, ast.Constant):
                    self.assertNotIsInstance(node.value, (float, complex), name)
                # Where examples are run, the name _ is a builtin, too.
                if isinstance(node, ast.Name) and node.id != "_" and hasattr(builtins, node.id):
                    self.assertIn(node.id, BUILTINS, name)

    def test_interface(self):
        for module, functions in INTERFACE.items():
            for name, arguments in functions.items():
                found = getattr(module, name)
                self.assertEqual(found.__module__, module.__name__)
                self.assertEqual(list(inspect.signature(found).parameters), arguments)
