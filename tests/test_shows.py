"""[25] to [28] with [7] and [8]."""

import random
import unittest

from stacksamples.conflicts import is_conflict
from stacksamples.errors import InvalidProgram, InvalidRun, InvalidSamples, NotShown
from stacksamples.programs import is_program
from stacksamples.shows import calls_of, is_run, run_for, samples_of, shows
from tests import oracle
from tests.oracle import BAD_PROGRAMS, PROGRAM, turned, unchanged

NAMES = ["main", "a", "b"]
MAIN, BACK, SAMPLE = ("call", "main"), ("return",), ("sample",)
A, B, C, D = [("call", name) for name in "abcd"]
BAD_RUNS = [
    None, True, False, 0, 1, "", "main", "call", b"call", (), (MAIN,), (MAIN, SAMPLE), {}, {MAIN: 1}, set(), {MAIN}, object(),
    list, iter([MAIN]), [None], [True], [1], [""], ["call"], ["main"], ["sample"], ["return"], [()], [[]], [{}], [set()], [[MAIN]],
    [BACK], [SAMPLE], [A], ["call", "main"], [("call",)], [("main",)], [("call", "main", "main")], [("Call", "main")],
    [("call", "Main")], [("call", "zz")], [("call", None)], [("call", ["main"])], [("call", ("main",))], [("call", {})],
    [("call", 1)], [["call", "main"]], [(b"call", "main")], [("call", b"main")], [{"call": "main"}], [object()], [("main", "call")],
]
# Each of these may stand behind the call of main only if it is a step.
BAD_STEPS = [
    None, True, 0, 1, "", "return", "sample", "call", (), [], {}, set(), ("return", "main"), ("sample", "main"), ("return", None),
    ("sample", 1), ["return"], ["sample"], ["call", "a"], ("Return",), ("returns",), (b"return",), (b"sample",), ("call",),
    ("call", "a", "b"), ("call", "zz"), ("call", "A"), ("call", ""), ("call", None), ("call", 1), ("call", ["a"]), ("call", {}),
    ("return", "a"), ("sample", "a"), ("Call", "a"), (None, "a"), ("main", "a"), ("a", "a"), ("a",), "a", ("a", "call"), [("return",)], (("return",),), [[("call", "a")]], {"return": 1}, {"return"}, object(), ("",),
]


def nested(value, levels):
    for _ in range(levels):
        value = [value]
    return value


class Errors(unittest.TestCase):
    def test_programs(self):
        for program in BAD_PROGRAMS:
            for call in [shows, run_for, is_run, samples_of, calls_of]:
                for value in [[], None, [("main",)], [MAIN], "main", [("zz",)]]:
                    with self.subTest(program=repr(program), call=call):
                        self.assertRaises(InvalidProgram, call, program, value)

    def test_samples(self):
        for good in [("main",), ("main", "a", "c")]:
            for samples in oracle.bad_stack_lists(good):
                for call in [shows, run_for]:
                    with self.subTest(samples=repr(samples), call=call):
                        self.assertRaises(InvalidSamples, call, PROGRAM, samples)

    def test_samples_begin_with_main(self):
        for samples in [[("a",)], [("main",), ("a", "c")], [("b", "main")], [("main", "d")] * 3 + [("d",)]]:
            for call in [shows, run_for]:
                self.assertRaises(InvalidSamples, call, PROGRAM, samples)

    def test_wrong_samples_are_no_matter_of_being_shown(self):
        self.assertRaises(InvalidSamples, run_for, PROGRAM, [("main", "d"), ("a",)])
        self.assertRaises(NotShown, run_for, PROGRAM, [("main", "d"), ("main",)])

    def test_runs(self):
        for run in BAD_RUNS:
            for call in [samples_of, calls_of]:
                with self.subTest(run=repr(run), call=call):
                    self.assertRaises(InvalidRun, call, PROGRAM, run)


class Shows(unittest.TestCase):
    def test_example(self):
        first = [("main", "a", "c"), ("main", "a"), ("main", "a", "c"), ("main", "b"), ("main", "a", "c")]
        second = [("main", "b"), ("main", "a"), ("main", "b")]
        found = [shows(PROGRAM, samples) for samples in [first, second, second[:2], second[1:], []]]
        self.assertEqual(found, [True, False, True, True, True])

    def check(self, wanted, program, *texts):
        for text in texts:
            samples = [("main",) if word == "." else ("main",) + tuple(word) for word in text.split()]
            self.assertIs(unchanged(self, shows, program, samples), wanted, text)

    def test_own_stacks(self):
        self.check(True, PROGRAM, "", ".", ". . .", ". a . b . a .", "a a . b", ". ac a ac . ac a .", "bd . a")
        self.check(False, PROGRAM, "a . a . a", "b . b", "bd . bc")

    def test_stacks_that_alone_do_not_fit(self):
        self.check(False, PROGRAM, "c", "ad", "bda", ". c .", "a c", "abc", "acc")
        self.check(False, {"main": [], "a": []}, "a", ". a", "aa")

    def test_one_stack_twice(self):
        self.check(True, PROGRAM, "b b", "bd bd bd", "bc bc", "ac ac a ac")
        self.check(False, PROGRAM, "bc bd bc", "b a b")

    def test_calls_that_no_sample_shows(self):
        program = {"main": ["a", "b", "c"], "a": ["d"], "b": ["d", "d"], "c": ["d"], "d": []}
        self.check(True, program, "a c", "c", "a . c", "ad cd", "bd b bd c", "ad ad", "bd . cd")
        self.check(False, program, "c a", "cd ad", "ad a ad", "bd b bd b bd", "c . c")

    def test_choices(self):
        program = {"main": [("one", [["a", "a"], ["b"], []]), ("maybe", ["c"])], "a": [], "b": [], "c": []}
        self.check(True, program, "", ".", "a . a . c", "b . c", "c", "a c", "a . a")
        self.check(False, program, "a b", "b a", "a . a . a", "c a", "b . b", "c . c")

    def test_loops(self):
        program = {"main": ["a", ("loop", [("maybe", ["b"]), ("one", [["c"], ["b", "a"]])])], "a": [("loop", ["c"])], "b": [], "c": []}
        self.check(True, program, "a . b . b . c . a . b . a", "c . b . c a", "ac a ac b ac", "a . a . a b")
        self.check(False, program, "ab", "bc", "a b ba")

    def test_recursion(self):
        program = {"main": [("one", [["main", "main"], ["a"], []])], "a": [("maybe", ["main"])]}
        stacks = [("main",) * 8, ("main",) * 7 + ("a",), ("main",) * 2, ("main", "main", "a", "main")]
        self.assertTrue(shows(program, [stacks[0], stacks[2], stacks[3]]))
        self.assertFalse(shows(program, [("main", "a"), ("main", "main")]))
        self.assertFalse(shows(program, [("main", "main"), ("main",), ("main", "main"), ("main",), ("main", "main")]))
        self.assertTrue(shows(program, [("main", "main"), ("main",), ("main", "main"), ("main",)]))
        self.assertTrue(shows(program, stacks[:1] * 200))

    def test_one_call_shows_as_much_as_it_can(self):
        # Only if both first samples lie in one call of a are there enough calls for the other ones.
        program = {"main": ["a", "a"], "a": ["b", "c", "b"], "b": [], "c": []}
        self.check(True, program, "ab ac ab ab", "ab ac ab a ab ac", "ab a ab a ab a ab", "ac ac ac", "ac ab ac ab")
        self.check(False, program, "ac ab ac ab ac", "ab a ab a ab a ab a ab", "ab . ab . ab", "ac . a ac a ac")

    def test_most_samples(self):
        self.check(True, PROGRAM, ". " * 200, "ac a " * 100, "a " * 100 + "b " * 50 + "a " * 50)
        self.check(False, PROGRAM, ". " * 199 + "c", "a " * 100 + "b " * 98 + "a b")
        self.check(True, PROGRAM, ". " * 1000, "ac a " * 1000)
        self.check(False, PROGRAM, "b " + "a " * 1000 + "b")

    def test_against_a_search(self):
        source = random.Random(31)
        answers = {True: 0, False: 0}
        for program in oracle.random_programs(31, 800, NAMES, is_program):
            if len(oracle.items_in(program["a"] + program["b"] + program["main"])) > 9:
                continue
            samples = oracle.random_stacks(source, program, "main", source.randint(2, 8))
            wanted = oracle.can_show(program, "main", samples, 5)
            answers[wanted] += 1
            self.assertIs(unchanged(self, shows, program, samples), wanted, (program, samples))
            self.assertIs(shows(turned(program), samples), wanted)
        self.assertGreater(min(answers.values()), 25, answers)

    def test_what_a_run_shows_is_shown(self):
        source = random.Random(32)
        names = ["main", "a", "b", "c", "d", "e"]
        for program in oracle.random_programs(32, 150, names, is_program):
            run = oracle.random_run(source, program, 300)
            samples = oracle.told_by(run)[1]
            self.assertTrue(shows(program, samples), (program, run))
            for _ in range(5):
                fewer = [sample for sample in samples if source.random() < 0.8]
                self.assertTrue(shows(program, fewer), (program, fewer))

    def test_is_judged_anew_after_each_change(self):
        program, samples = {"main": ["a"], "a": [], "b": []}, [("main", "a"), ("main", "b")]
        self.assertIs(shows(program, samples), False)
        program["main"].append("b")
        self.assertIs(shows(program, samples), True)
        samples.append(("main", "a"))
        self.assertIs(shows(program, samples), False)
        program["main"][1:] = [("loop", ["b", "a"])]
        self.assertIs(shows(program, samples), True)


class RunFor(unittest.TestCase):
    def check(self, program, samples):
        """Whether samples are shown, with a run that is looked at step by step or a conflict."""
        try:
            run = unchanged(self, run_for, program, samples)
        except NotShown as error:
            self.assert_conflict(program, samples, error.numbers)
            return False
        self.assertIs(type(run), list)
        calls, shown = oracle.told_by(run)
        self.assertEqual(shown, samples)
        self.assertTrue(all(returned for _, _, returned in calls))
        self.assertEqual((run[0], run[-1]), (MAIN, BACK))
        self.assertTrue(oracle.is_run(program, run), (program, samples, run))
        self.assertIs(is_run(program, run), True)
        self.assertEqual(samples_of(program, run), samples)
        self.assertEqual(run_for(turned(program), list(samples)), run)
        return True

    def assert_conflict(self, program, samples, numbers):
        self.assertIs(type(numbers), list)
        self.assertEqual(numbers, sorted(set(numbers)))
        chosen = [samples[number] for number in numbers]
        self.assertFalse(shows(program, chosen))
        for at in range(len(chosen)):
            self.assertTrue(shows(program, chosen[:at] + chosen[at + 1:]))
        self.assertTrue(is_conflict(program, samples, numbers))

    def test_examples(self):
        samples = [("main", "b"), ("main", "a", "c"), ("main", "a")]
        run = run_for(PROGRAM, samples)
        self.assertEqual([is_run(PROGRAM, run), samples_of(PROGRAM, run) == samples, run[-1]], [True, True, BACK])
        program = {"main": ["b"], "b": ["d", "c"], "c": [], "d": []}
        with self.assertRaises(NotShown) as caught:
            run_for(program, [("main", "b"), ("main", "b", "c"), ("main", "b", "d")])
        self.assertEqual(caught.exception.numbers, [1, 2])

    def test_no_samples(self):
        self.assertEqual(run_for({"main": []}, []), [MAIN, BACK])
        self.assertEqual(run_for({"main": ["a"], "a": []}, []), [MAIN, A, BACK, BACK])
        self.assertTrue(self.check(PROGRAM, []))

    def test_own_stacks(self):
        self.assertEqual(run_for({"main": []}, [("main",)] * 2), [MAIN, SAMPLE, SAMPLE, BACK])
        program = {"main": ["a", "a"], "a": []}
        run = run_for(program, [("main",), ("main", "a"), ("main",), ("main", "a"), ("main",)])
        self.assertEqual(run, [MAIN, SAMPLE, A, SAMPLE, BACK, SAMPLE, A, SAMPLE, BACK, SAMPLE, BACK])

    def test_calls_that_no_sample_shows_return(self):
        program = {"main": [("one", [["a", "c"], ["c", "a", "b"]])], "a": ["b"], "b": [], "c": [("loop", ["c"])]}
        for samples in [[("main", "b")], [("main", "c"), ("main", "a", "b"), ("main", "a")], [("main", "c", "c", "c")], []]:
            self.assertTrue(self.check(program, samples))
        self.assertFalse(self.check(program, [("main", "a"), ("main", "c"), ("main", "b")]))

    def test_a_shortest_word_can_be_one_that_does_not_end(self):
        # The word [f] is the shortest one of f, and yet its calls never all return.
        program = {"main": ["f"], "f": [("one", [["f"], ["g", "g", "g"]])], "g": []}
        for samples in [[], [("main",)], [("main", "f")], [("main", "f", "f", "f")], [("main", "f", "g")], [("main",) + ("f",) * 7]]:
            self.assertTrue(self.check(program, samples))
        self.assertFalse(self.check(program, [("main", "f", "f"), ("main", "f", "g")]))

    def test_deep_calls_that_no_sample_shows(self):
        program = {"main": ["a"], "a": ["b"], "b": ["c"], "c": ["d"], "d": ["e"], "e": [("maybe", ["main", "main"])]}
        stack = ("main", "a", "b", "c", "d", "e", "main", "a")
        self.assertTrue(self.check(program, [stack, stack[:6], stack[:5]]))
        self.assertTrue(self.check(program, [stack[:5], stack, stack[:6], stack]))
        self.assertFalse(self.check(program, [stack, stack[:5], stack]))
        self.assertFalse(self.check(program, [stack, stack[:6], stack, stack[:6], stack]))

    def test_one_stack_twice_and_many(self):
        self.assertTrue(self.check(PROGRAM, [("main", "a", "c")] * 200))
        self.assertTrue(self.check(PROGRAM, [("main", "a", "c"), ("main", "a")] * 100))
        self.assertTrue(self.check(PROGRAM, [("main",)] * 300))
        loops = {"main": [("loop", ["a", "b", "a", "b", "c"])], "a": [], "b": [], "c": []}
        self.assertTrue(self.check(loops, [("main", "c"), ("main",), ("main", "a")] * 67))

    def test_longest_stacks(self):
        names = ["main", "a", "b", "c", "d", "e"]
        source = random.Random(33)
        full = {name: [("loop", ["main", "a", "b", "c", "d"])] for name in names}
        once = {name: [("one", [["main", "a", "b", "c", "d"], []])] for name in names}
        stacks = [tuple(["main"] + [source.choice(names[:5]) for _ in range(7)]) for _ in range(200)]
        self.assertTrue(self.check(full, stacks))
        self.assertTrue(self.check(once, sorted(stacks, key=lambda stack: [names.index(name) for name in stack])))
        self.assertFalse(self.check(once, stacks))
        # What has been returned may be passed again: this run has far more than 400 steps.
        run = run_for(full, stacks)
        self.assertGreater(len(run), 5000)
        self.assertEqual(sum(calls_of(full, run).values()), run.count(BACK))

    def test_against_shows(self):
        source = random.Random(34)
        answers = {True: 0, False: 0}
        for program in oracle.random_programs(34, 500, NAMES, is_program):
            samples = oracle.random_stacks(source, program, "main", source.randint(1, 10), 4)
            wanted = shows(program, samples)
            answers[wanted] += 1
            self.assertIs(self.check(program, samples), wanted, (program, samples))
        self.assertGreater(min(answers.values()), 60, answers)

    def test_of_what_runs_show(self):
        source = random.Random(35)
        names = ["main", "a", "b", "c", "d", "e"]
        for program in oracle.random_programs(35, 100, names, is_program):
            samples = oracle.told_by(oracle.random_run(source, program, 200))[1]
            self.assertTrue(self.check(program, samples), (program, samples))

    def test_numbers_of_an_error_are_new(self):
        for _ in range(2):
            with self.assertRaises(NotShown) as caught:
                run_for(PROGRAM, [("main", "b"), ("main",), ("main", "b")])
            self.assertEqual(caught.exception.numbers, [0, 1, 2])
            caught.exception.numbers.clear()


class IsRun(unittest.TestCase):
    def check(self, wanted, program, *runs):
        for run in runs:
            with self.subTest(run=repr(run)[:300]):
                self.assertIs(unchanged(self, is_run, program, run), wanted)

    def test_example(self):
        program = {"main": ["a", "b"], "a": [("loop", ["b"])], "b": []}
        call = [MAIN, A]
        runs = [call, call + [BACK, SAMPLE], call + [BACK, BACK], call + [B, SAMPLE, BACK, BACK], [SAMPLE] + call, []]
        self.assertEqual([is_run(program, run) for run in runs], [True, True, False, True, False, True])

    def test_values_of_other_kinds(self):
        for value in BAD_RUNS:
            with self.subTest(value=repr(value)):
                self.assertIs(is_run(PROGRAM, value), False)

    def test_values_that_are_no_steps(self):
        program = {"main": [("loop", ["a"])], "a": []}
        for step in BAD_STEPS:
            for run in [[MAIN, step], [step, MAIN], [MAIN, A, step], [MAIN, A, BACK, step, A], [MAIN, BACK, step], [step]]:
                with self.subTest(run=repr(run)):
                    self.assertIs(is_run(program, run), False)
                    self.assertRaises(InvalidRun, samples_of, program, run)
                    self.assertRaises(InvalidRun, calls_of, program, run)

    def test_nested_and_long_values(self):
        for value in [nested([], 19), nested(MAIN, 18), [MAIN] + nested(SAMPLE, 18), [[]] * 400, [None] * 400, [MAIN] * 400]:
            self.assertIs(is_run(PROGRAM, value), False)
        itself = [MAIN]
        itself.append(itself)
        self.assertIs(is_run(PROGRAM, itself), False)
        self.check(False, PROGRAM, [MAIN] + [SAMPLE] * 398 + [None], [SAMPLE] * 400, [BACK] * 400)
        self.check(True, PROGRAM, [MAIN] + [SAMPLE] * 399, [MAIN, A] + [C, BACK] * 199)
        self.check(False, PROGRAM, [MAIN, A] + [C, BACK] * 198 + [C, C], [MAIN, A] + [C, BACK] * 198 + [BACK, BACK])

    def test_open_calls_need_not_return(self):
        self.check(True, PROGRAM, [], [MAIN], [MAIN, A], [MAIN, A, C], [MAIN, A, C, BACK], [MAIN, A, C, SAMPLE])

    def test_first_step(self):
        self.check(False, PROGRAM, [A], [BACK], [SAMPLE], [SAMPLE, MAIN], [A, BACK, MAIN], [("call", "zz")])

    def test_no_step_behind_the_return_of_the_first_call(self):
        program = {"main": [("maybe", ["main"])]}
        self.check(True, program, [MAIN, BACK], [MAIN, MAIN, BACK, BACK], [MAIN, MAIN, BACK, SAMPLE, BACK])
        for step in [MAIN, BACK, SAMPLE]:
            self.check(False, program, [MAIN, BACK, step], [MAIN, MAIN, BACK, BACK, step], [MAIN, BACK, step, BACK])

    def test_calls_are_made_by_the_innermost_open_call(self):
        program = {"main": ["a", "b"], "a": ["c"], "b": [], "c": []}
        self.check(True, program, [MAIN, A, C, BACK, BACK, B, BACK, BACK])
        self.check(False, program, [MAIN, A, B], [MAIN, C], [MAIN, A, C, B], [MAIN, A, C, BACK, B], [MAIN, A, A], [MAIN, B])

    def test_a_call_that_has_returned_made_a_word(self):
        program = {"main": [("loop", ["a"])], "a": ["b", "b"], "b": []}
        b = [B, BACK]
        self.check(True, program, [MAIN, A] + b + b + [BACK, BACK], [MAIN, A] + b + b + [BACK, A] + b)
        self.check(False, program, [MAIN, A, BACK], [MAIN, A] + b + [BACK], [MAIN, A] + b * 3, [MAIN, A] + b * 3 + [BACK])
        self.check(False, PROGRAM, [MAIN, BACK], [MAIN, A, BACK, BACK], [MAIN, SAMPLE, BACK])

    def test_choices_are_remembered(self):
        program = {"main": [("one", [["a", "b"], ["a", "c", "c"], []])], "a": [], "b": [], "c": []}
        a, b, c = [A, BACK], [B, BACK], [C, BACK]
        self.check(True, program, [MAIN, BACK], [MAIN] + a, [MAIN] + a + b + [BACK], [MAIN] + a + c + c + [BACK], [MAIN] + a + c)
        self.check(False, program, [MAIN] + a + [BACK], [MAIN] + a + c + [BACK], [MAIN] + a + b + c, [MAIN] + a + c + b, [MAIN] + b)

    def test_samples_with_many_open_calls(self):
        program = {"main": [("maybe", ["main"])]}
        self.check(True, program, [MAIN] * 8 + [SAMPLE], [MAIN] * 9, [MAIN] * 400, [MAIN] * 9 + [BACK, SAMPLE])
        self.check(False, program, [MAIN] * 9 + [SAMPLE], [MAIN] * 9 + [SAMPLE, BACK], [MAIN] * 399 + [SAMPLE])
        self.check(True, program, [MAIN] * 200 + [BACK] * 200)
        self.check(False, program, [MAIN] * 199 + [BACK] * 200)

    def test_samples_stand_between_any_two_steps(self):
        run = [MAIN, A, C, BACK, BACK, B, D, BACK, C, BACK, BACK, A, BACK, BACK]
        self.check(True, PROGRAM, run)
        for at in range(len(run) + 1):
            self.check(1 <= at < len(run), PROGRAM, run[:at] + [SAMPLE] + run[at:], run[:at] + [SAMPLE] * 2 + run[at:])

    def test_against_the_rules_one_by_one(self):
        source = random.Random(36)
        answers = {True: 0, False: 0}
        for program in oracle.random_programs(36, 150, NAMES, is_program):
            run = oracle.random_run(source, program, source.randint(1, 60))
            self.assertIs(unchanged(self, is_run, program, run), True, (program, run))
            steps = [MAIN, A, B, BACK, SAMPLE]
            for _ in range(10):
                at = source.randrange(len(run))
                other = run[:at] + source.choice([[], [run[at]] * 2, [source.choice(steps)], [source.choice(steps), run[at]]]) + run[at + 1:]
                wanted = oracle.is_run(program, other)
                answers[wanted] += 1
                self.assertIs(is_run(program, other), wanted, (program, other))
                self.assertIs(is_run(turned(program), other), wanted)
        self.assertGreater(min(answers.values()), 200, answers)

    def test_is_judged_anew_after_each_change(self):
        program, run = {"main": ["a"], "a": []}, [MAIN, A, BACK, A]
        self.assertIs(is_run(program, run), False)
        program["main"].append("a")
        self.assertIs(is_run(program, run), True)
        run.append(A)
        self.assertIs(is_run(program, run), False)


class WhatRunsShow(unittest.TestCase):
    def test_example(self):
        program = {"main": ["a", "b"], "a": [("loop", ["b"])], "b": []}
        run = [MAIN, SAMPLE, A, B, BACK, B, SAMPLE]
        found = [samples_of(program, run), calls_of(program, run)]
        self.assertEqual(found, [[("main",), ("main", "a", "b")], {"a": 1, "b": 2, "main": 1}])

    def test_empty_run(self):
        self.assertEqual([unchanged(self, samples_of, PROGRAM, []), unchanged(self, calls_of, PROGRAM, [])], [[], {}])
        self.assertEqual([samples_of(PROGRAM, [MAIN]), calls_of(PROGRAM, [MAIN])], [[], {"main": 1}])

    def test_samples_show_all_open_calls(self):
        run = [MAIN, SAMPLE, A, SAMPLE, C, SAMPLE, SAMPLE, BACK, SAMPLE, BACK, SAMPLE, B, D, BACK, C, SAMPLE]
        wanted = [(), ("a",), ("a", "c"), ("a", "c"), ("a",), (), ("b", "c")]
        self.assertEqual(unchanged(self, samples_of, PROGRAM, run), [("main",) + stack for stack in wanted])
        program = {"main": [("maybe", ["main"])]}
        self.assertEqual(samples_of(program, [MAIN] * 8 + [SAMPLE]), [("main",) * 8])

    def test_calls_are_counted_whether_they_return_or_not(self):
        run = [MAIN, A, C, BACK, C, BACK, BACK, B, D]
        found = unchanged(self, calls_of, PROGRAM, run)
        self.assertEqual(list(found.items()), [("a", 1), ("b", 1), ("c", 2), ("d", 1), ("main", 1)])
        program = {"zz": [], "main": ["zz", ("loop", ["b", "a"])], "b": [], "a": []}
        run = [MAIN, ("call", "zz"), BACK] + [B, BACK, A, BACK] * 90 + [B]
        self.assertEqual(list(calls_of(program, run).items()), [("a", 90), ("b", 91), ("main", 1), ("zz", 1)])
        self.assertEqual(calls_of({"main": [("maybe", ["main"])]}, [MAIN] * 400), {"main": 400})

    def test_samples_with_nine_open_calls_are_no_run(self):
        for call in [samples_of, calls_of]:
            self.assertRaises(InvalidRun, call, {"main": [("maybe", ["main"])]}, [MAIN] * 9 + [SAMPLE])

    def test_against_the_rules_one_by_one(self):
        source = random.Random(37)
        for program in oracle.random_programs(37, 100, ["main", "b", "a", "c"], is_program):
            run = oracle.random_run(source, program, source.randint(0, 400))
            calls, samples = oracle.told_by(run)
            self.assertEqual(unchanged(self, samples_of, program, run), samples)
            counts = {}
            for name, _, _ in sorted(calls):
                counts[name] = counts.get(name, 0) + 1
            self.assertEqual(list(unchanged(self, calls_of, program, run).items()), list(counts.items()))
            self.assertEqual(list(calls_of(turned(program), run).items()), list(counts.items()))
