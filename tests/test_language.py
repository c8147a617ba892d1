"""Some rules of the language, as far as they can be read off the files of the package."""

import ast
import builtins
import inspect
import pathlib
import string
import unittest

import stacksamples.blocks
import stacksamples.closures
import stacksamples.conflicts
import stacksamples.nexts
import stacksamples.programs
import stacksamples.same
import stacksamples.shows
import stacksamples.sure

FOLDER = pathlib.Path(stacksamples.programs.__file__).parent
ALLOWED = set(string.printable) - set("\t\r\x0b\x0c")
BUILTINS = """
    len range enumerate zip min max sum abs sorted reversed int str bool list tuple dict set isinstance ord repr any all
    divmod iter next map ValueError KeyError IndexError NotImplemented
""".split()
INTERFACE = {
    stacksamples.programs: {
        "is_program": ["value"], "callees": ["program", "name"], "reached": ["program"],
        "shortest_call": ["program", "name"], "is_word": ["program", "name", "word"],
        "is_start": ["program", "name", "word"],
    },
    stacksamples.closures: {
        "is_part": ["program", "name", "word"], "full_word": ["program", "name", "word"],
        "products_of": ["program", "name"], "word_in": ["products", "word"], "includes": ["products", "other"],
        "reduced": ["products"], "is_repeatable": ["program", "name", "callee"],
    },
    stacksamples.blocks: {
        "regions": ["program", "stacks"], "fits": ["program", "stacks"], "longest_fit": ["program", "stacks"],
        "fewest_blocks": ["program", "stacks"], "walk_blocks": ["program", "stacks"],
    },
    stacksamples.shows: {
        "shows": ["program", "samples"], "run_for": ["program", "samples"], "is_run": ["program", "value"],
        "samples_of": ["program", "run"], "calls_of": ["program", "run"],
    },
    stacksamples.conflicts: {
        "conflict": ["program", "samples"], "is_conflict": ["program", "samples", "value"],
        "fewest_left_out": ["program", "samples"], "shown_rest": ["program", "samples"],
    },
    stacksamples.same: {
        "same_call": ["program", "samples", "first", "second", "depth"],
        "same_run": ["program", "samples", "first", "second", "depth"],
        "other_run": ["program", "samples", "first", "second", "depth"],
    },
    stacksamples.sure: {"surely_called": ["program", "samples"], "run_without": ["program", "samples", "name"]},
    stacksamples.nexts: {"next_stacks": ["program", "samples", "depth"], "first_unshown": ["program", "samples"]},
}
METHODS = """
    append clear copy count endswith extend find get index insert isalnum isalpha isdigit islower isspace isupper items join
    keys ljust lower lstrip partition pop remove replace reverse rfind rjust rpartition rsplit rstrip setdefault split
    splitlines startswith strip update upper values zfill bit_length add discard
""".split()
BARRED_NAMES = """
    mro elements open input law version_info with_traceback add_note register id type vars dir eval exec exit help locals
    globals compile super os sys quit license credits copyright
""".split()


class Language(unittest.TestCase):
    def each_file(self):
        texts = [(path.name, path.read_text()) for path in sorted(FOLDER.glob("*.py"))]
        return [(name, text, ast.parse(text, name)) for name, text in texts]

    def test_only_python_files(self):
        found = [path.name for path in FOLDER.iterdir() if path.suffix != ".py" and path.name != "__pycache__"]
        self.assertEqual(found, [])
        self.assertTrue((FOLDER / "__init__.py").exists())

    def test_sizes_and_signs(self):
        for name, text, tree in self.each_file():
            self.assertLessEqual(len(text.splitlines()), 399, name)
            self.assertLessEqual(max(len(line) for line in text.splitlines()), 120, name)
            self.assertLessEqual(set(text), ALLOWED, name)
            for node in ast.walk(tree):
                if isinstance(node, ast.FunctionDef):
                    self.assertLessEqual(node.end_lineno - node.lineno + 1, 40, node.name)

    def test_imports_only_the_package(self):
        for _, _, tree in self.each_file():
            for node in ast.walk(tree):
                self.assertNotIsInstance(node, ast.Import)
                if isinstance(node, ast.ImportFrom):
                    self.assertEqual((node.level, node.module.split(".")[0]), (0, "stacksamples"))

    def test_statements_at_module_level(self):
        kinds = (ast.ImportFrom, ast.FunctionDef, ast.ClassDef, ast.Assign, ast.Expr)
        for _, _, tree in self.each_file():
            for node in tree.body:
                self.assertIsInstance(node, kinds)
                if isinstance(node, (ast.Expr, ast.Assign)):
                    self.assertIsInstance(node.value, (ast.Constant, ast.Tuple))
                    self.assertTrue(isinstance(node, ast.Assign) or isinstance(node.value, ast.Constant))
                    hash(ast.literal_eval(node.value))

    def test_what_is_left_out(self):
        barred = (ast.Import, ast.AsyncFunctionDef, ast.Await, ast.Div)
        for name, _, tree in self.each_file():
            for node in ast.walk(tree):
                self.assertNotIsInstance(node, barred, name)
                if isinstance(node, ast.Constant):
                    self.assertNotIsInstance(node.value, (float, complex), name)
                # Where examples are run, the name _ is a builtin, too.
                if isinstance(node, ast.Name) and node.id != "_" and hasattr(builtins, node.id):
                    self.assertIn(node.id, BUILTINS, name)

    def test_names_and_methods(self):
        for name, text, tree in self.each_file():
            for node in ast.walk(tree):
                if isinstance(node, ast.Call) and isinstance(node.func, ast.Attribute):
                    self.assertIn(node.func.attr, METHODS + ["__init__"], name)
                names = [
                    getattr(node, field, None) for field in ["id", "arg", "attr", "name"]
                    if not (isinstance(node, ast.Name) and isinstance(node.ctx, ast.Load))
                ]
                for found in names:
                    self.assertNotIn(found, BARRED_NAMES, name)
                if isinstance(node, (ast.FunctionDef, ast.ClassDef)):
                    self.assertEqual(node.decorator_list, [])
                    self.assertTrue(node.name == "__init__" or not hasattr(builtins, node.name), node.name)
            strings = [node.value for node in ast.walk(tree) if isinstance(node, ast.Constant) and isinstance(node.value, str)]
            self.assertFalse(any("%" in found for found in strings), name)

    def test_no_name_of_an_import_means_something_else(self):
        for name, _, tree in self.each_file():
            imported = [alias.name for node in tree.body if isinstance(node, ast.ImportFrom) for alias in node.names]
            self.assertEqual(len(imported), len(set(imported)), name)
            for node in ast.walk(tree):
                if isinstance(node, ast.Name) and isinstance(node.ctx, ast.Store):
                    self.assertNotIn(node.id, imported, name)
                if isinstance(node, ast.arg):
                    self.assertNotIn(node.arg, imported, name)

    def test_no_files_import_each_other(self):
        imports = {
            name[:-3]: [node.module.split(".")[1] for node in tree.body if isinstance(node, ast.ImportFrom)]
            for name, _, tree in self.each_file()
        }
        left = dict(imports)
        while left:
            ready = [name for name in left if not any(other in left for other in left[name])]
            self.assertNotEqual(ready, [], left)
            left = {name: left[name] for name in left if name not in ready}

    def test_interface(self):
        for module, functions in INTERFACE.items():
            for name, arguments in functions.items():
                found = getattr(module, name)
                self.assertEqual(found.__module__, module.__name__)
                self.assertEqual(list(inspect.signature(found).parameters), arguments)
