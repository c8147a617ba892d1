"""[38] and [39]."""

import random
import unittest

from stacksamples.conflicts import is_conflict
from stacksamples.errors import InvalidDepth, InvalidProgram, InvalidSamples, NotShown
from stacksamples.nexts import first_unshown, next_stacks
from stacksamples.programs import is_program
from stacksamples.shows import samples_of, run_for, shows
from tests import oracle
from tests.oracle import BAD_PROGRAMS, PROGRAM, turned, unchanged

NAMES = ["main", "a", "b"]
NO_DEPTHS = [
    None, True, False, 0, -1, 4, 5, 8, 2**70, -2**70, "", "1", "a", b"1", 1.0, 2.0, 0.5, (), (1,), [], [1], {}, {1: 1}, set(), {1},
    object(), int, [[1]],
]


def samples_from(text):
    return [("main",) if word == "." else ("main",) + tuple(word) for word in text.split()]


class Errors(unittest.TestCase):
    def test_programs(self):
        for program in BAD_PROGRAMS:
            for samples in [[], None, [("main",)], [("zz",)], "main"]:
                with self.subTest(program=repr(program), samples=samples):
                    self.assertRaises(InvalidProgram, first_unshown, program, samples)
                    for depth in [1, 0, None, True]:
                        self.assertRaises(InvalidProgram, next_stacks, program, samples, depth)

    def test_samples(self):
        for samples in oracle.bad_stack_lists(("main", "b")) + [[("a",)], [("main",), ("a", "c")]]:
            with self.subTest(samples=repr(samples)):
                self.assertRaises(InvalidSamples, first_unshown, PROGRAM, samples)
                for depth in [1, 0, None, True]:
                    self.assertRaises(InvalidSamples, next_stacks, PROGRAM, samples, depth)

    def test_depths(self):
        for depth in NO_DEPTHS:
            for text in ["", "a", "d", "b a b"]:
                with self.subTest(depth=repr(depth), text=text):
                    # That the samples are not shown comes last.
                    self.assertRaises(InvalidDepth, next_stacks, PROGRAM, samples_from(text), depth)

    def test_not_shown(self):
        for text in ["d", "b a b", "a . a . . a", "bd bc bd"]:
            for depth in [1, 2, 3]:
                with self.assertRaises(NotShown) as caught:
                    next_stacks(PROGRAM, samples_from(text), depth)
                self.assertTrue(is_conflict(PROGRAM, samples_from(text), caught.exception.numbers))


class NextStacks(unittest.TestCase):
    def check(self, program, samples):
        """All next stacks for the depths 1 to 3, each one a stack that can follow, in ascending order."""
        functions = sorted(program)
        stacks = [("main",)] + [("main", name) for name in functions]
        stacks += [("main", name, inner) for name in functions for inner in functions]
        found = []
        for depth in [1, 2, 3]:
            found = unchanged(self, next_stacks, program, samples, depth)
            wanted = sorted(stack for stack in stacks if len(stack) <= depth and shows(program, samples + [stack]))
            self.assertEqual(found, wanted, (program, samples, depth))
            self.assertEqual(next_stacks(turned(program), list(samples), depth), found)
            self.assertIs(type(found), list)
        return found

    def of(self, program, text):
        return " ".join("".join(stack[1:]) or "." for stack in self.check(program, samples_from(text)))

    def test_examples(self):
        self.assertEqual(next_stacks(PROGRAM, samples_from("b a"), 3), [("main",), ("main", "a"), ("main", "a", "c")])
        self.assertEqual(next_stacks(PROGRAM, samples_from("bc"), 2), [("main",), ("main", "a"), ("main", "b")])

    def test_without_samples(self):
        self.assertEqual(self.of(PROGRAM, ""), ". a ac b bc bd")
        self.assertEqual(self.of({"main": []}, ""), ".")
        self.assertEqual(self.of({"main": [("maybe", ["main"])], "a": []}, ""), ". main mainmain")
        self.assertEqual([next_stacks(PROGRAM, [], depth) for depth in [1, 2]], [[("main",)], [("main",), ("main", "a"), ("main", "b")]])

    def test_ordinary(self):
        wanted = {
            ".": ". a ac b bc bd", "a": ". a ac b bc bd", "a .": ". a ac b bc bd", "b": ". a ac b bc bd", "b .": ". a ac", "bd": ". a ac b bc bd",
            "bc": ". a ac b bc", "bc b": ". a ac b", "a . a": ". a ac", "a b a .": ".", "a . a .": ".",
        }
        for text, names in wanted.items():
            self.assertEqual(self.of(PROGRAM, text), names, text)

    def test_the_stack_itself_can_come_again(self):
        for text in ["a", "ac", "b bd", "a b bc", "a . a", "."]:
            self.assertIn(samples_from(text)[-1], self.check(PROGRAM, samples_from(text)))

    def test_choices_loops_and_recursion(self):
        program = {"main": [("one", [["a", "b"], ["c"], []]), ("loop", ["b"])], "a": [("maybe", ["main"])], "b": [], "c": [("loop", ["c"])]}
        self.assertEqual(self.of(program, "c ."), ". b")
        self.assertEqual(self.of(program, "c"), ". b c cc")
        self.assertEqual(self.of(program, "a"), ". a amain b")
        self.assertEqual(self.of(program, "b"), ". b")
        twice = {"main": [("one", [["main", "main"], []])]}
        inner = [("main", "main"), ("main",)]
        self.assertEqual(self.check(twice, inner + inner), [("main",)])
        self.assertEqual(self.check(twice, inner), [("main",), ("main", "main"), ("main", "main", "main")])

    def test_last_sample_with_many_names(self):
        program = {"main": ["a", "b"], "a": [("maybe", ["a"])], "b": []}
        self.assertEqual(self.of(program, "aaaaaaa"), ". a aa b")
        self.assertEqual(self.of(program, "aaaaaaa a"), ". a b")
        self.assertEqual(self.of(program, "aaaaaaa b"), ". b")

    def test_behind_two_hundred_samples(self):
        self.assertEqual(self.of(PROGRAM, "a " * 200), ". a ac b bc bd")
        self.assertEqual(self.of(PROGRAM, "ac . " * 1 + "a " * 198), ". a ac")
        self.assertEqual(self.of(PROGRAM, "bc " * 200), ". a ac b bc")
        self.assertEqual(self.of(PROGRAM, "bc " * 300), ". a ac b bc")
        self.assertRaises(NotShown, next_stacks, PROGRAM, samples_from("a " * 199 + "d"), 3)

    def test_most_functions(self):
        names = ["main", "a", "b", "c", "d", "e"]
        full = {name: [("loop", names[:5])] for name in names}
        self.assertEqual(len(self.check(full, [("main",) + ("a", "b", "c", "d", "main", "a", "b")] * 200)), 1 + 5 + 25)
        self.assertEqual(next_stacks(full, [], 3), sorted(next_stacks(full, [], 3)))

    def test_at_random(self):
        source = random.Random(71)
        for program in oracle.random_programs(71, 150, NAMES, is_program):
            samples = oracle.random_stacks(source, program, "main", source.randint(0, 7), 4)
            while not shows(program, samples):
                samples.pop()
            found = self.check(program, samples)
            self.assertIn(("main",), found)
            self.assertEqual(samples_of(program, run_for(program, samples + [found[-1]])), samples + [found[-1]])

    def test_is_judged_anew_after_each_change(self):
        program, samples = {"main": ["a"], "a": [], "b": []}, samples_from("a .")
        self.assertEqual(next_stacks(program, samples, 2), [("main",)])
        program["main"].append("b")
        self.assertEqual(next_stacks(program, samples, 2), [("main",), ("main", "b")])
        samples.pop()
        self.assertEqual(next_stacks(program, samples, 2), [("main",), ("main", "a"), ("main", "b")])


class FirstUnshown(unittest.TestCase):
    def check(self, program, samples):
        found = unchanged(self, first_unshown, program, samples)
        wanted = [number for number in range(len(samples)) if not shows(program, samples[:number + 1])]
        self.assertEqual(found, wanted[0] if wanted else None, (program, samples))
        self.assertNotIsInstance(found, bool)
        self.assertEqual(first_unshown(turned(program), list(samples)), found)
        return found

    def test_example(self):
        program = {"main": ["a", "b", "a"], "a": [], "b": []}
        found = [self.check(program, [("main", name) for name in row]) for row in ["aba", "abab", "bab", ""]]
        self.assertEqual(found, [None, 3, 2, None])

    def test_ordinary(self):
        wanted = {
            "": None, ".": None, "d": 0, "d d": 0, ". d": 1, "a . a b": 3, "b . a . b a": 4, "bc bd": 1, "a bd bc bd": 3, "ac a ac": None,
            "abc": 0, "a abc a": 1,
        }
        for text, number in wanted.items():
            self.assertEqual(self.check(PROGRAM, samples_from(text)), number, text)

    def test_many_samples(self):
        self.assertIsNone(self.check(PROGRAM, samples_from(". " * 200)))
        self.assertEqual(self.check(PROGRAM, samples_from(". " * 199 + "d")), 199)
        self.assertEqual(self.check(PROGRAM, samples_from("b " + "a " * 198 + "b")), 199)
        self.assertEqual(first_unshown(PROGRAM, samples_from("b " + "a " * 400 + "b a")), 401)

    def test_at_random(self):
        source = random.Random(72)
        found = {}
        for program in oracle.random_programs(72, 300, NAMES, is_program):
            number = self.check(program, oracle.random_stacks(source, program, "main", source.randint(1, 9), 4))
            found[number] = found.get(number, 0) + 1
        self.assertGreater(min(found.get(number, 0) for number in [None, 0, 1, 2, 3]), 3, found)

    def test_is_judged_anew_after_each_change(self):
        program, samples = {"main": ["a"], "a": [], "b": []}, samples_from("a b")
        self.assertEqual(first_unshown(program, samples), 1)
        program["main"].append("b")
        self.assertIsNone(first_unshown(program, samples))
        samples.append(("main", "a"))
        self.assertEqual(first_unshown(program, samples), 2)
