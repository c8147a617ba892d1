"""[32] to [34]."""

import random
import unittest

from stacksamples.conflicts import is_conflict
from stacksamples.errors import InvalidDepth, InvalidIndex, InvalidProgram, InvalidSamples, NotShown
from stacksamples.programs import is_program
from stacksamples.same import other_run, same_call, same_run
from stacksamples.shows import is_run, run_for, samples_of, shows
from tests import oracle
from tests.oracle import BAD_PROGRAMS, PROGRAM, turned, unchanged

NAMES = ["main", "a", "b"]
CALLS = [same_call, same_run, other_run]
SAMPLES = [("main", "a", "c"), ("main", "a"), ("main", "a", "c"), ("main", "b"), ("main", "a", "c")]
NO_NUMBERS = [
    None, True, False, "", "0", "1", b"0", 0.0, 1.0, (), [], [0], (0,), {}, {0: 1}, set(), object(), int, -1, -5, 5, 6, 200, 2**70,
    -2**70, [[0]], "main",
]
NO_DEPTHS = [None, True, False, "", "0", b"0", 0.0, 1.0, (), [], [0], (0,), {}, set(), object(), int, -1, -2, 2, 3, 8, 2**70]


def samples_from(text):
    return [("main",) if word == "." else ("main",) + tuple(word) for word in text.split()]


class Errors(unittest.TestCase):
    def test_programs(self):
        for program in BAD_PROGRAMS:
            for samples, first, second, depth in [(SAMPLES, 0, 2, 1), (None, None, None, None), ([("zz",)], 3, 1, 9)]:
                for call in CALLS:
                    with self.subTest(program=repr(program), call=call):
                        self.assertRaises(InvalidProgram, call, program, samples, first, second, depth)

    def test_samples(self):
        for samples in oracle.bad_stack_lists(("main", "a")) + [[("a",)], [("main",), ("a", "c")], [("main", "zz")] * 3]:
            for first, second, depth in [(0, 1, 0), (None, "x", True), (7, 3, -1)]:
                for call in CALLS:
                    with self.subTest(samples=repr(samples), call=call):
                        self.assertRaises(InvalidSamples, call, PROGRAM, samples, first, second, depth)

    def test_numbers(self):
        for number in NO_NUMBERS:
            for call in CALLS:
                for depth in [0, 9, None, True]:
                    with self.subTest(number=repr(number), call=call):
                        self.assertRaises(InvalidIndex, call, PROGRAM, SAMPLES, number, 2, depth)
                        self.assertRaises(InvalidIndex, call, PROGRAM, SAMPLES, 0, number, depth)
                        self.assertRaises(InvalidIndex, call, PROGRAM, SAMPLES, number, number, depth)

    def test_first_is_less_than_second(self):
        for first, second in [(0, 0), (1, 0), (4, 4), (4, 3), (4, 0), (2, 1)]:
            for call in CALLS:
                for depth in [0, None, 9]:
                    self.assertRaises(InvalidIndex, call, PROGRAM, SAMPLES, first, second, depth)

    def test_there_are_no_two_samples(self):
        for samples in [[], SAMPLES[:1]]:
            for first, second in [(0, 0), (0, 1), (1, 2), (-1, 0), (-2, -1)]:
                for call in CALLS:
                    self.assertRaises(InvalidIndex, call, PROGRAM, samples, first, second, 0)

    def test_depths(self):
        for depth in NO_DEPTHS:
            for call in CALLS:
                with self.subTest(depth=repr(depth), call=call):
                    self.assertRaises(InvalidDepth, call, PROGRAM, SAMPLES, 0, 1, depth)
                    # That the samples are not shown comes last.
                    self.assertRaises(InvalidDepth, call, PROGRAM, SAMPLES[:2] + [("main", "d")], 0, 1, depth)

    def test_depth_is_within_both_samples(self):
        samples = [("main",), ("main", "a"), ("main", "a", "c"), ("main", "a", "c")]
        for first, second, most in [(0, 1, 0), (0, 2, 0), (1, 2, 1), (1, 3, 1), (2, 3, 2)]:
            for call in CALLS:
                call(PROGRAM, samples, first, second, most)
                self.assertRaises(InvalidDepth, call, PROGRAM, samples, first, second, most + 1)
        deep = [("main",) * 8] * 2
        self.assertEqual(same_call({"main": [("maybe", ["main"])]}, deep, 0, 1, 7), "surely")
        self.assertRaises(InvalidDepth, same_call, {"main": [("maybe", ["main"])]}, deep, 0, 1, 8)

    def test_not_shown(self):
        for text in ["b a b", "a a d a", "b . b . a", ". c", "a b a b a"]:
            samples = samples_from(text)
            for call in CALLS:
                with self.assertRaises(NotShown) as caught:
                    call(PROGRAM, samples, 0, 1, 0)
                self.assertTrue(is_conflict(PROGRAM, samples, caught.exception.numbers))
                # The samples between the two do not stand alone, nor do these two.
                self.assertRaises(NotShown, call, PROGRAM, samples, 0, len(samples) - 1, 0)


class Same(unittest.TestCase):
    def check(self, program, samples, first, second, depth):
        """What same_call tells, which must be what the runs show."""
        found = unchanged(self, same_call, program, samples, first, second, depth)
        one = unchanged(self, same_run, program, samples, first, second, depth)
        two = unchanged(self, other_run, program, samples, first, second, depth)
        self.assertEqual(found, "never" if one is None else "surely" if two is None else "possibly", (program, samples, first, second, depth))
        for run, is_one in [(one, True), (two, False)]:
            if run is not None:
                self.assertTrue(oracle.is_run(program, run), (program, samples, run))
                self.assertIs(is_run(program, run), True)
                self.assertEqual(samples_of(program, run), samples)
                frames = oracle.frames_of(run)
                self.assertIs(frames[first][depth] == frames[second][depth], is_one, (program, samples, run))
        self.assertFalse(one is None and two is None)
        other = turned(program)
        self.assertEqual(same_call(other, list(samples), first, second, depth), found)
        self.assertEqual([same_run(other, list(samples), first, second, depth), other_run(other, list(samples), first, second, depth)], [one, two])
        return found

    def of(self, program, text, *frames):
        return [self.check(program, samples_from(text), *frame)[0] for frame in frames]

    def test_examples(self):
        found = [same_call(PROGRAM, SAMPLES, 0, 2, depth) for depth in [0, 1, 2]]
        found = [found, same_call(PROGRAM, SAMPLES[:3], 0, 2, 1), same_call(PROGRAM, SAMPLES, 0, 4, 1)]
        self.assertEqual(found, [["surely", "surely", "never"], "possibly", "never"])
        found = [other_run(PROGRAM, SAMPLES, 0, 2, 1), same_run(PROGRAM, SAMPLES, 0, 2, 2), same_run(PROGRAM, SAMPLES, 0, 4, 1)]
        self.assertEqual(found, [None, None, None])
        self.assertIsNotNone(other_run(PROGRAM, SAMPLES[:3], 0, 2, 1))
        self.assertIsNotNone(same_run(PROGRAM, SAMPLES, 0, 2, 1))

    def test_main_is_surely_one(self):
        for text in ["a a", "a . b", "ac a", ". .", "bd bd bc a ac"]:
            many = len(text.split())
            for first in range(many):
                for second in range(first + 1, many):
                    self.assertEqual(self.check(PROGRAM, samples_from(text), first, second, 0), "surely")

    def test_other_names_are_never_one(self):
        self.assertEqual(self.of(PROGRAM, "a b a", (0, 1, 1), (1, 2, 1), (0, 2, 1)), ["n", "n", "n"])
        program = {"main": ["a", "b"], "a": [("loop", ["c"])], "b": [("loop", ["c"])], "c": []}
        self.assertEqual(self.of(program, "ac bc bc", (0, 1, 2), (0, 1, 1), (0, 2, 2), (1, 2, 1), (1, 2, 2)), ["n", "n", "n", "s", "p"])

    def test_a_sample_between_them_without_the_frame(self):
        program = {"main": [("loop", ["a"])], "a": [("loop", ["b"])], "b": []}
        self.assertEqual(self.of(program, "ab a ab", (0, 2, 2), (0, 2, 1), (0, 1, 1)), ["n", "p", "p"])
        self.assertEqual(self.of(program, "ab . ab", (0, 2, 2), (0, 2, 1)), ["n", "n"])
        self.assertEqual(self.of(program, "ab ab ab", (0, 2, 2), (0, 2, 1), (0, 1, 2)), ["p", "p", "p"])

    def test_equal_stacks(self):
        once = {"main": ["a"], "a": ["b"], "b": []}
        self.assertEqual(self.of(once, "ab ab ab", (0, 2, 1), (0, 2, 2), (1, 2, 2)), ["s", "s", "s"])
        twice = {"main": ["a", "a"], "a": ["b"], "b": []}
        self.assertEqual(self.of(twice, "ab ab ab", (0, 2, 1), (0, 2, 2), (1, 2, 2)), ["p", "p", "p"])
        self.assertEqual(self.of(twice, "ab . ab ab", (2, 3, 1), (2, 3, 2), (0, 3, 1)), ["s", "s", "n"])
        inner = {"main": ["a"], "a": ["b", "b"], "b": []}
        self.assertEqual(self.of(inner, "ab ab ab", (0, 2, 1), (0, 2, 2), (0, 1, 2)), ["s", "p", "p"])
        self.assertEqual(self.of(inner, "ab ab a ab", (0, 1, 2), (0, 3, 2)), ["s", "n"])
        self.assertEqual(self.of(PROGRAM, "a b b a a", (1, 2, 1), (3, 4, 1), (0, 3, 1)), ["s", "s", "n"])

    def test_all_samples_count(self):
        # Whether there is a call left for a second one is decided by samples behind, or ahead.
        program = {"main": ["a", "a", "b", ("maybe", ["a"])], "a": [("maybe", ["c"])], "b": [], "c": []}
        self.assertEqual(self.of(program, "a a", (0, 1, 1)), ["p"])
        self.assertEqual(self.of(program, "a . a a", (2, 3, 1)), ["p"])
        self.assertEqual(self.of(program, "a . a a b", (2, 3, 1)), ["s"])
        self.assertEqual(self.of(program, "b a a", (1, 2, 1)), ["s"])
        self.assertEqual(self.of(program, "ac a ac", (0, 2, 1), (0, 1, 1), (1, 2, 1)), ["n", "p", "p"])
        self.assertEqual(self.of(program, "ac a ac b", (0, 2, 1), (0, 1, 1), (1, 2, 1)), ["n", "p", "p"])
        self.assertEqual(self.of(program, "ac . ac a b", (2, 3, 1)), ["s"])

    def test_a_call_can_be_one_only_if_an_earlier_one_ends_early(self):
        # As long as it can be, the first call of a goes on up to the second sample of b; then it has no d left.
        program = {"main": ["a", "a"], "a": ["b", "d", "b"], "b": [], "d": []}
        self.assertEqual(self.of(program, "ab ad ab ad", (2, 3, 1), (1, 2, 1), (0, 1, 1), (0, 2, 1)), ["p", "p", "s", "p"])
        self.assertEqual(self.of(program, "ab ad ab ad ab", (2, 3, 1), (1, 2, 1), (0, 1, 1), (2, 4, 1), (1, 3, 1)), ["p", "p", "s", "p", "n"])
        self.assertEqual(self.of(program, "ab ad ab a ab ad ab", (2, 3, 1), (3, 4, 1), (2, 4, 1), (0, 2, 1), (4, 6, 1)), ["p", "p", "n", "s", "s"])

    def test_nested_calls(self):
        program = {"main": ["a", "a"], "a": ["b", "b"], "b": ["c"], "c": []}
        self.assertEqual(self.of(program, "abc ab abc ab abc ab abc", (0, 2, 1), (2, 4, 1), (4, 6, 1), (0, 2, 2)), ["s", "n", "s", "n"])
        self.assertEqual(self.of(program, "abc ab abc", (0, 2, 1), (0, 1, 1), (0, 1, 2), (0, 2, 2)), ["p", "p", "p", "n"])

    def test_recursion(self):
        program = {"main": [("one", [["main", "main"], []])]}
        two, three = ("main",) * 2, ("main",) * 3
        self.assertEqual(self.check(program, [two, two], 0, 1, 1), "possibly")
        self.assertEqual(self.check(program, [two, ("main",), two, two], 2, 3, 1), "surely")
        self.assertEqual(self.check(program, [three, two, three, two, two], 0, 2, 1), "possibly")
        self.assertEqual(self.check(program, [three, two, three, two, three], 0, 2, 1), "possibly")
        self.assertEqual(self.check(program, [three, two, three, two, three], 0, 4, 1), "never")
        self.assertEqual(self.check(program, [three, two, three, two, three, two, three], 0, 2, 1), "surely")
        deep = ("main",) * 8
        self.assertEqual(self.check(program, [deep, deep[:7], deep], 0, 2, 6), "possibly")
        self.assertEqual(self.check(program, [deep, deep], 0, 1, 7), "possibly")
        self.assertEqual(self.check(program, [deep, deep[:7], deep, deep[:7], deep], 0, 4, 6), "never")

    def test_choices(self):
        program = {"main": [("one", [["a", "a"], ["b", "a"], []])], "a": [("one", [["b"], []])], "b": []}
        self.assertEqual(self.of(program, "a a", (0, 1, 1)), ["p"])
        self.assertEqual(self.of(program, "b a a", (1, 2, 1)), ["s"])
        self.assertEqual(self.of(program, "ab a a", (0, 1, 1), (1, 2, 1), (0, 2, 1)), ["p", "p", "p"])
        self.assertEqual(self.of(program, "ab a ab", (0, 1, 1), (1, 2, 1), (0, 2, 1)), ["p", "p", "n"])

    def test_many_samples(self):
        program = {"main": ["a", "a"], "a": [("loop", ["c"]), "b"], "b": [], "c": []}
        samples = samples_from("ac a " * 99 + "ab a")
        self.assertEqual(self.check(program, samples, 0, 199, 1), "possibly")
        self.assertEqual(self.check(program, samples, 0, 198, 1), "possibly")
        self.assertEqual(self.check(program, samples, 0, 2, 2), "never")
        samples = samples_from("ac a " * 90 + "ab " + "ac a " * 9 + "a")
        self.assertEqual(self.check(program, samples, 0, 180, 1), "surely")
        self.assertEqual(self.check(program, samples, 180, 181, 1), "never")
        self.assertEqual(self.check(program, samples, 181, 199, 1), "surely")

    def test_longest_stacks_and_most_samples(self):
        names = ["main", "a", "b", "c", "d", "e"]
        full = {name: [("loop", ["main", "a", "b", "c", "d"])] for name in names}
        stacks = [("main", "a", "b", "c", "d", "main", "a", last) for last in "bc"] * 100
        for first, second in [(0, 199), (0, 1), (100, 150), (198, 199)]:
            for depth in range(8):
                found = same_call(full, stacks, first, second, depth)
                self.assertEqual(found, "surely" if depth == 0 else "possibly" if depth < 7 else "never")
        self.check(full, stacks, 0, 199, 6)
        tight = {"main": ["a"] * 5, "a": [("one", [["b"] * 5, []])], "b": [("one", [["c"] * 5, []])], "c": []}
        stacks = samples_from("abc ab " * 100)
        self.assertEqual(self.check(tight, stacks, 0, 199, 1), "never")
        self.assertEqual(self.check(tight, stacks, 100, 140, 1), "possibly")
        self.assertEqual(self.check(tight, stacks, 100, 150, 1), "never")
        stacks = samples_from("abc ab " * 125)[:249]
        self.assertEqual(self.check(tight, stacks, 0, 48, 1), "surely")
        self.assertEqual(self.check(tight, stacks, 48, 50, 1), "never")

    def check_all(self, program, samples):
        found = {}
        rows = oracle.rows_of_kept(program, samples)
        for first in range(len(samples)):
            for second in range(first + 1, len(samples)):
                for depth in range(min(len(samples[first]), len(samples[second]))):
                    ones = {all(kept > depth for kept in row[first:second]) for row in rows}
                    wanted = "possibly" if len(ones) == 2 else "surely" if True in ones else "never"
                    self.assertEqual(self.check(program, samples, first, second, depth), wanted, (program, samples, first, second, depth))
                    found[wanted] = found.get(wanted, 0) + 1
        return found

    def test_against_all_ways_to_keep_calls_open(self):
        source = random.Random(51)
        answers = {}
        for program in oracle.random_programs(51, 120, NAMES, is_program):
            stacks = oracle.random_stacks(source, program, "main", source.randint(2, 6), 4)
            if source.random() < 0.6:
                stacks = [source.choice(stacks[:3]) for _ in range(source.randint(3, 7))]
            while not shows(program, stacks):
                stacks.pop()
            for answer, many in self.check_all(program, stacks).items():
                answers[answer] = answers.get(answer, 0) + many
        self.assertGreater(min(answers.values()), 100, answers)

    def test_against_all_ways_where_calls_are_few(self):
        source = random.Random(52)
        programs = [
            {"main": ["a", "b", "a"], "a": ["b", "c", "b"], "b": [("maybe", ["c"])], "c": []},
            {"main": ["a", "a"], "a": ["b", ("maybe", ["c"]), "b"], "b": ["c", ("maybe", ["c"])], "c": []},
            {"main": [("one", [["main", "a"], ["a", "a"], []])], "a": [("one", [["b", "c"], ["c", "b"]])], "b": [], "c": []},
            {"main": ["a", ("loop", ["b"]), "a"], "a": ["b", "c"], "b": ["c", "c"], "c": [("maybe", ["c"])]},
        ]
        answers = {}
        for program in programs:
            for _ in range(12):
                base = oracle.random_stacks(source, program, "main", 3, 4)
                stacks = [source.choice(base) for _ in range(source.randint(4, 8))]
                while not shows(program, stacks):
                    stacks.pop()
                for answer, many in self.check_all(program, stacks).items():
                    answers[answer] = answers.get(answer, 0) + many
        self.assertGreater(min(answers.values()), 50, answers)

    def test_what_runs_do_is_possible(self):
        source = random.Random(53)
        names = ["main", "a", "b", "c", "d", "e"]
        for program in oracle.random_programs(53, 60, names, is_program):
            run = oracle.random_run(source, program, 150)
            frames, samples = oracle.frames_of(run), oracle.told_by(run)[1]
            for _ in range(5):
                if len(samples) < 2:
                    continue
                first, second = sorted(source.sample(range(len(samples)), 2))
                depth = source.randrange(min(len(samples[first]), len(samples[second])))
                wrong = "never" if frames[first][depth] == frames[second][depth] else "surely"
                self.assertNotEqual(self.check(program, samples, first, second, depth), wrong)

    def test_cuts(self):
        # [34]: frames are one if and only if there is no cut at their depth or a smaller one between them.
        source = random.Random(54)
        for program in oracle.random_programs(54, 100, NAMES, is_program):
            samples = oracle.told_by(oracle.random_run(source, program, 60))[1]
            if len(samples) < 2:
                continue
            frames = oracle.frames_of(run_for(program, samples))
            for first in range(len(samples)):
                for second in range(first + 1, len(samples)):
                    for depth in range(min(len(samples[first]), len(samples[second]))):
                        cut = any(frames[at][:depth + 1] != frames[at + 1][:depth + 1] for at in range(first, second))
                        self.assertIs(frames[first][depth] == frames[second][depth], not cut)

    def test_is_judged_anew_after_each_change(self):
        program, samples = {"main": ["a"], "a": [], "b": []}, samples_from("a a")
        self.assertEqual(same_call(program, samples, 0, 1, 1), "surely")
        program["main"].append("a")
        self.assertEqual(same_call(program, samples, 0, 1, 1), "possibly")
        samples.insert(1, ("main",))
        self.assertEqual(same_call(program, samples, 0, 2, 1), "never")
        self.assertIsNone(same_run(program, samples, 0, 2, 1))
        samples.append(("main", "a"))
        self.assertEqual(same_call(program, samples, 2, 3, 1), "surely")
        self.assertIsNone(other_run(program, samples, 2, 3, 1))
