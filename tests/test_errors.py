"""[3] and the interface of errors.py."""

import unittest

from stacksamples import errors

WITH_ONE_STRING = [
    "InvalidProgram", "InvalidName", "InvalidWord", "InvalidStack", "InvalidStacks", "InvalidSamples", "InvalidIndex",
    "InvalidDepth", "InvalidProducts", "InvalidRun", "InvalidCommand", "NothingToUndo",
]
WITH_FIELDS = {"NotShown": ["numbers"], "InvalidText": ["line", "word"], "TooLarge": ["limit"]}


class Errors(unittest.TestCase):
    def test_base(self):
        self.assertEqual(errors.StackError.__bases__, (ValueError,))
        self.assertEqual(str(errors.StackError("why")), "why")

    def test_each_one_stands_directly_under_the_base(self):
        for name in WITH_ONE_STRING + list(WITH_FIELDS):
            with self.subTest(name):
                found = getattr(errors, name)
                self.assertEqual(found.__bases__, (errors.StackError,))
                self.assertEqual((found.__name__, found.__module__), (name, "stacksamples.errors"))

    def test_there_are_no_others(self):
        found = [name for name, value in vars(errors).items() if isinstance(value, type)]
        self.assertEqual(sorted(found), sorted(["StackError"] + WITH_ONE_STRING + list(WITH_FIELDS)))

    def test_those_with_one_string(self):
        for name in WITH_ONE_STRING:
            with self.subTest(name):
                found = getattr(errors, name)("why it is so")
                self.assertEqual(str(found), "why it is so")
                with self.assertRaises(errors.StackError) as caught:
                    raise found
                self.assertIs(caught.exception, found)

    def test_fields_are_kept(self):
        for numbers in [[], [3], [0, 4, 17], list(range(200))]:
            self.assertEqual(errors.NotShown(numbers).numbers, numbers)
        self.assertEqual(errors.NotShown(numbers=[1, 2]).numbers, [1, 2])
        for line, word in [(0, 0), (1, 4), (12, 200), (None, None)]:
            found = errors.InvalidText(line, word)
            self.assertEqual((found.line, found.word), (line, word))
            found = errors.InvalidText(word=word, line=line)
            self.assertEqual((found.line, found.word), (line, word))
        for limit in [9, 200]:
            self.assertEqual(errors.TooLarge(limit).limit, limit)
            self.assertEqual(errors.TooLarge(limit=limit).limit, limit)

    def test_fields_have_to_be_given(self):
        for name, fields in WITH_FIELDS.items():
            for many in [len(fields) - 1, len(fields) + 1]:
                with self.subTest(name, many=many), self.assertRaises(TypeError):
                    getattr(errors, name)(*[0] * many)

    def test_numbers_are_not_the_list_that_was_passed(self):
        numbers = [1, 2]
        found = errors.NotShown(numbers)
        numbers.append(3)
        self.assertEqual(found.numbers, [1, 2])

    def test_can_be_caught_as_a_value_error(self):
        for found in [errors.NotShown([0]), errors.InvalidText(0, 1), errors.TooLarge(9)]:
            with self.assertRaises(ValueError):
                raise found
