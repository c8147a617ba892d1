"""The examples of DOC.md and of README.md, as they stand there."""

import doctest
import pathlib
import unittest

from stacksamples.errors import StackError

HERE = pathlib.Path(__file__).parent


def answer(source, names):
    """What an example shows: the value of an expression, an error, or nothing."""
    try:
        compiled = compile(source, "example", "eval")
    except SyntaxError:
        exec(source, names)
        return ""
    try:
        found = eval(compiled, names)
    except StackError as error:
        fields = [f"{name}={value!r}" for name, value in vars(error).items()]
        return f"raises {type(error).__name__}" + (f"({', '.join(fields)})" if fields else "")
    return "" if found is None else repr(found)


def examples(path):
    """The source and the answer of each example of a file, and the answer that it has now."""
    names = {}
    # A fence directly behind an answer is no part of it.
    found = doctest.DocTestParser().get_examples(path.read_text().replace("```", ""))
    return [(example.source, example.want.strip(), answer(example.source, names)) for example in found]


class Examples(unittest.TestCase):
    def check(self, path, least):
        found = examples(path)
        self.assertGreaterEqual(len(found), least)
        for source, wanted, given in found:
            with self.subTest(source=source):
                self.assertEqual(given, wanted)

    def test_of_the_document(self):
        text = (HERE / "examples.md").read_text()
        for number in range(14, 54):
            # The examples of these points stand at those beside them.
            self.assertIs(f"[{number}]\n" in text, number not in (34, 42), number)
        self.check(HERE / "examples.md", 160)

    def test_of_the_readme(self):
        self.check(HERE.parent / "README.md", 20)

    def test_are_those_of_the_document(self):
        document = HERE.parent.parent / "shared" / "DOC.md"
        if not document.exists():
            self.skipTest("no document here")
        whole = document.read_text()
        for example in (HERE / "examples.md").read_text().split("```")[1::2]:
            self.assertIn(example, whole)
