"""Some rules of the language, as far as they can be read off the files of the package."""

import ast
import builtins
import inspect
import pathlib
import string
import unittest

import stacksamples.blocks
import stacksamples.closures
import stacksamples.conflicts
import stacksamples.console
import stacksamples.errors
import stacksamples.forms
import stacksamples.live
import stacksamples.nexts
import stacksamples.programs
import stacksamples.same
import stacksamples.shows
import stacksamples.sure
import stacksamples.texts

FOLDER = pathlib.Path(stacksamples.programs.__file__).parent
ALLOWED = set(string.printable) - set("\t\r\x0b\x0c")
BUILTINS = """
    len range enumerate zip min max sum abs sorted reversed int str bool list tuple dict set isinstance ord repr any all
    divmod iter next map property classmethod ValueError KeyError IndexError NotImplemented
""".split()
INTERFACE = {
    stacksamples.programs: {
        "is_program": ["value"], "callees": ["program", "name"], "reached": ["program"],
        "shortest_call": ["program", "name"], "is_word": ["program", "name", "word"],
        "is_start": ["program", "name", "word"],
    },
    stacksamples.closures: {
        "is_part": ["program", "name", "word"], "full_word": ["program", "name", "word"],
        "products_of": ["program", "name"], "word_in": ["products", "word"], "includes": ["products", "other"],
        "reduced": ["products"], "is_repeatable": ["program", "name", "callee"],
    },
    stacksamples.blocks: {
        "regions": ["program", "stacks"], "fits": ["program", "stacks"], "longest_fit": ["program", "stacks"],
        "fewest_blocks": ["program", "stacks"], "walk_blocks": ["program", "stacks"],
    },
    stacksamples.shows: {
        "shows": ["program", "samples"], "run_for": ["program", "samples"], "is_run": ["program", "value"],
        "samples_of": ["program", "run"], "calls_of": ["program", "run"],
    },
    stacksamples.conflicts: {
        "conflict": ["program", "samples"], "is_conflict": ["program", "samples", "value"],
        "fewest_left_out": ["program", "samples"], "shown_rest": ["program", "samples"],
    },
    stacksamples.same: {
        "same_call": ["program", "samples", "first", "second", "depth"],
        "same_run": ["program", "samples", "first", "second", "depth"],
        "other_run": ["program", "samples", "first", "second", "depth"],
    },
    stacksamples.sure: {"surely_called": ["program", "samples"], "run_without": ["program", "samples", "name"]},
    stacksamples.nexts: {"next_stacks": ["program", "samples", "depth"], "first_unshown": ["program", "samples"]},
    stacksamples.forms: {
        "exact_functions": ["program"], "form_of": ["program"], "same_lists": ["program", "other"],
        "parting_samples": ["program", "other"], "is_parting": ["program", "other", "value"],
    },
    stacksamples.live: {"Profile": ["program"]},
    stacksamples.texts: {
        "format_program": ["program"], "parse_program": ["text"], "format_samples": ["samples"], "parse_samples": ["text"],
    },
    stacksamples.console: {"Console": []},
}
CLASSES = {
    stacksamples.live.Profile: {
        "add": ["self", "stacks"], "drop": ["self", "number"], "undo": ["self"], "fork": ["self"], "__len__": ["self"], "__eq__": ["self", "other"],
    },
    stacksamples.console.Console: {"execute": ["self", "row"]},
}
METHODS = """
    append clear copy count endswith extend find get index insert isalnum isalpha isdigit islower isspace isupper items join
    keys ljust lower lstrip partition pop remove replace reverse rfind rjust rpartition rsplit rstrip setdefault split
    splitlines startswith strip update upper values zfill bit_length add discard
""".split()
DOUBLE = ["__init__", "__len__", "__eq__"]
BARRED_ATTRIBUTES = """
    items keys values pop update append clear extend insert remove reverse setdefault sort args encode decode hex fromhex format
""".split()
BARRED_NAMES = """
    mro elements open input law version_info with_traceback add_note register id type vars dir eval exec exit help locals
    globals compile super os sys quit license credits copyright
""".split()


class Language(unittest.TestCase):
    def each_file(self):
        texts = [(path.name, path.read_text()) for path in sorted(FOLDER.glob("*.py"))]
        return [(name, text, ast.parse(text, name)) for name, text in texts]

    def test_only_python_files(self):
        found = [path.name for path in FOLDER.iterdir() if path.suffix != ".py" and path.name != "__pycache__"]
        self.assertEqual(found, [])
        self.assertTrue((FOLDER / "__init__.py").exists())

    def test_sizes_and_signs(self):
        for name, text, tree in self.each_file():
            self.assertLessEqual(len(text.splitlines()), 399, name)
            self.assertLessEqual(max(len(line) for line in text.splitlines()), 120, name)
            self.assertLessEqual(set(text), ALLOWED, name)
            for node in ast.walk(tree):
                if isinstance(node, ast.FunctionDef):
                    self.assertLessEqual(node.end_lineno - node.lineno + 1, 40, node.name)

    def test_imports_only_the_package(self):
        for _, _, tree in self.each_file():
            for node in ast.walk(tree):
                self.assertNotIsInstance(node, ast.Import)
                if isinstance(node, ast.ImportFrom):
                    self.assertEqual((node.level, node.module.split(".")[0]), (0, "stacksamples"))

    def test_statements_at_module_level(self):
        kinds = (ast.ImportFrom, ast.FunctionDef, ast.ClassDef, ast.Assign, ast.Expr)
        for _, _, tree in self.each_file():
            for node in tree.body:
                self.assertIsInstance(node, kinds)
                if isinstance(node, (ast.Expr, ast.Assign)):
                    self.assertTrue(isinstance(node, ast.Assign) or isinstance(node.value, ast.Constant))
                    value = ast.literal_eval(node.value)
                    # A table contains neither a list nor a dict, so all in it can be hashed.
                    hash(tuple(value.items()) if isinstance(value, dict) else value)

    def test_what_is_left_out(self):
        barred = (ast.Import, ast.AsyncFunctionDef, ast.Await, ast.Div)
        for name, _, tree in self.each_file():
            for node in ast.walk(tree):
                self.assertNotIsInstance(node, barred, name)
                if isinstance(node, ast.Constant):
                    self.assertNotIsInstance(node.value, (float, complex), name)
                # Where examples are run, the name _ is a builtin, too.
                if isinstance(node, ast.Name) and node.id != "_" and hasattr(builtins, node.id):
                    self.assertIn(node.id, BUILTINS, name)

    def test_tables_are_only_read(self):
        for name, _, tree in self.each_file():
            tables = [node.targets[0].id for node in tree.body if isinstance(node, ast.Assign) and isinstance(node.value, ast.Dict)]
            allowed = set()
            for node in ast.walk(tree):
                if isinstance(node, ast.Subscript) and isinstance(node.ctx, ast.Load):
                    allowed.add(node.value)
                if isinstance(node, ast.Compare) and isinstance(node.ops[0], (ast.In, ast.NotIn)):
                    allowed.update(node.comparators)
            for node in ast.walk(tree):
                if isinstance(node, ast.Name) and node.id in tables and isinstance(node.ctx, ast.Load):
                    self.assertIn(node, allowed, (name, node.id))

    def test_names_and_methods(self):
        methods = {
            node.name for _, _, tree in self.each_file() for found in tree.body if isinstance(found, ast.ClassDef)
            for node in found.body if isinstance(node, ast.FunctionDef)
        }
        for name, text, tree in self.each_file():
            for node in ast.walk(tree):
                if isinstance(node, ast.Call) and isinstance(node.func, ast.Attribute):
                    self.assertIn(node.func.attr, METHODS + sorted(methods), name)
                names = [
                    getattr(node, field, None) for field in ["id", "arg", "attr", "name"]
                    if not (isinstance(node, ast.Name) and isinstance(node.ctx, ast.Load))
                ]
                for found in names:
                    self.assertNotIn(found, BARRED_NAMES, name)
                if isinstance(node, (ast.FunctionDef, ast.ClassDef)):
                    self.assertLessEqual({decorator.id for decorator in node.decorator_list}, {"property", "classmethod"})
                    self.assertTrue(node.name in DOUBLE or not hasattr(builtins, node.name), node.name)
                    self.assertTrue(node.name in DOUBLE or not node.name.startswith("__"), node.name)
            strings = [node.value for node in ast.walk(tree) if isinstance(node, ast.Constant) and isinstance(node.value, str)]
            self.assertFalse(any("%" in found for found in strings), name)

    def test_no_name_of_an_import_means_something_else(self):
        for name, _, tree in self.each_file():
            imported = [alias.name for node in tree.body if isinstance(node, ast.ImportFrom) for alias in node.names]
            self.assertEqual(len(imported), len(set(imported)), name)
            for node in ast.walk(tree):
                if isinstance(node, ast.Name) and isinstance(node.ctx, ast.Store):
                    self.assertNotIn(node.id, imported, name)
                if isinstance(node, ast.arg):
                    self.assertNotIn(node.arg, imported, name)

    def test_no_files_import_each_other(self):
        imports = {
            name[:-3]: [node.module.split(".")[1] for node in tree.body if isinstance(node, ast.ImportFrom)]
            for name, _, tree in self.each_file()
        }
        left = dict(imports)
        while left:
            ready = [name for name in left if not any(other in left for other in left[name])]
            self.assertNotEqual(ready, [], left)
            left = {name: left[name] for name in left if name not in ready}

    def test_attributes(self):
        for name, _, tree in self.each_file():
            for node in ast.walk(tree):
                if isinstance(node, ast.Attribute) and isinstance(node.ctx, ast.Store):
                    self.assertNotIn(node.attr, BARRED_ATTRIBUTES, name)
                    self.assertIsInstance(node.value, ast.Name, name)

    def test_classes(self):
        for found, methods in CLASSES.items():
            for name, arguments in methods.items():
                self.assertIn(name, vars(found))
                self.assertEqual(list(inspect.signature(vars(found)[name]).parameters), arguments)
        profile = vars(stacksamples.live.Profile)
        self.assertIsInstance(profile["of"], classmethod)
        self.assertEqual(list(inspect.signature(stacksamples.live.Profile.of).parameters), ["program", "samples"])
        for name in ["samples", "next_names", "depth_now"]:
            self.assertIsInstance(profile[name], property)
        self.assertEqual(inspect.signature(profile["add"]).parameters["stacks"].kind, inspect.Parameter.VAR_POSITIONAL)

    def test_interface(self):
        for module, functions in INTERFACE.items():
            for name, arguments in functions.items():
                found = getattr(module, name)
                self.assertEqual(found.__module__, module.__name__)
                self.assertEqual(list(inspect.signature(found).parameters), arguments)
