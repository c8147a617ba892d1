"""The examples of DOC.md and of README.md, as they stand there."""

import doctest
import pathlib
import unittest

HERE = pathlib.Path(__file__).parent


def failures(path):
    """How many examples of a file there are, and how many of them fail."""
    # A fence directly behind an answer is no part of it.
    text = path.read_text().replace("```", "")
    test = doctest.DocTestParser().get_doctest(text, {}, path.name, str(path), 0)
    found = doctest.DocTestRunner(verbose=False).run(test)
    return found.attempted, found.failed


class Examples(unittest.TestCase):
    def test_of_the_document(self):
        text = (HERE / "examples.md").read_text()
        for number in range(14, 22):
            self.assertIn(f"[{number}]\n", text)
        attempted, failed = failures(HERE / "examples.md")
        self.assertEqual((attempted > 20, failed), (True, 0))

    def test_of_the_readme(self):
        attempted, failed = failures(HERE.parent / "README.md")
        self.assertEqual((attempted > 8, failed), (True, 0))
