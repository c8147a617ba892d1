"""[35] to [37]."""

import random
import unittest

from stacksamples.conflicts import is_conflict
from stacksamples.errors import InvalidName, InvalidProgram, InvalidSamples, NotShown
from stacksamples.programs import is_program
from stacksamples.shows import calls_of, is_run, samples_of, shows
from stacksamples.sure import run_without, surely_called
from tests import oracle
from tests.oracle import BAD_PROGRAMS, PROGRAM, turned, unchanged

NAMES = ["main", "a", "b"]
SIX = ["main", "a", "b", "c", "d", "e"]


def samples_from(text):
    return [("main",) if word == "." else ("main",) + tuple(word) for word in text.split()]


class Errors(unittest.TestCase):
    def test_programs(self):
        for program in BAD_PROGRAMS:
            for samples in [[], None, [("main",)], [("zz",)], [("main", "b"), ("main", "a")]]:
                with self.subTest(program=repr(program), samples=samples):
                    self.assertRaises(InvalidProgram, surely_called, program, samples)
                    for name in ["main", "zz", None]:
                        self.assertRaises(InvalidProgram, run_without, program, samples, name)

    def test_samples(self):
        for samples in oracle.bad_stack_lists(("main", "a", "c")) + [[("a",)], [("main",), ("a",)], [("main", "d"), ("b", "d")]]:
            with self.subTest(samples=repr(samples)):
                self.assertRaises(InvalidSamples, surely_called, PROGRAM, samples)
                for name in ["main", "zz", None]:
                    self.assertRaises(InvalidSamples, run_without, PROGRAM, samples, name)

    def test_names(self):
        for name in oracle.bad_names(PROGRAM) + ["e", "aa"]:
            for samples in [[], [("main", "b")], [("main", "d")]]:
                with self.subTest(name=repr(name), samples=samples):
                    # That the samples are not shown comes last.
                    self.assertRaises(InvalidName, run_without, PROGRAM, samples, name)

    def test_not_shown(self):
        for text in ["b a b", "c", ". a . a . a", "bc bd", "b bc . bc"]:
            samples = samples_from(text)
            for call, more in [(surely_called, []), (run_without, ["d"]), (run_without, ["main"])]:
                with self.assertRaises(NotShown) as caught:
                    call(PROGRAM, samples, *more)
                self.assertTrue(is_conflict(PROGRAM, samples, caught.exception.numbers))
                caught.exception.numbers.clear()

    def test_example(self):
        with self.assertRaises(NotShown) as caught:
            surely_called({"main": ["a", "b"], "a": [], "b": []}, [("main", "b"), ("main", "a")])
        self.assertEqual(caught.exception.numbers, [0, 1])


class Sure(unittest.TestCase):
    def check(self, program, samples):
        """The functions that are surely called; for all other ones there is a run without them."""
        found = unchanged(self, surely_called, program, samples)
        self.assertIs(type(found), list)
        self.assertEqual(surely_called(turned(program), list(samples)), found)
        for name in program:
            run = unchanged(self, run_without, program, samples, name)
            self.assertEqual(run_without(turned(program), list(samples), name), run)
            self.assertIs(run is None, name in found, (program, samples, name))
            if run is None or run == samples == []:
                continue
            self.assertIs(type(run), list)
            self.assertTrue(oracle.is_run(program, run), (program, samples, name, run))
            self.assertIs(is_run(program, run), True)
            self.assertEqual(samples_of(program, run), samples)
            self.assertEqual(run[-1], ("sample",))
            self.assertNotIn(("call", name), run)
            self.assertNotIn(name, calls_of(program, run))
        return found

    def of(self, program, text):
        return " ".join(self.check(program, samples_from(text)))

    def test_examples(self):
        found = [self.check(PROGRAM, samples) for samples in [[("main", "b", "c")], [("main", "b")], [("main", "a")], []]]
        self.assertEqual(found, [["a", "b", "c", "d", "main"], ["a", "b", "main"], ["a", "main"], []])
        run = run_without(PROGRAM, [("main", "b")], "d")
        found = [is_run(PROGRAM, run), samples_of(PROGRAM, run), run[-1], ("call", "d") in run]
        self.assertEqual(found, [True, [("main", "b")], ("sample",), False])
        self.assertIsNone(run_without(PROGRAM, [("main", "b")], "a"))
        program = {"main": ["f", "g"], "f": [("maybe", ["h"])], "g": ["h"], "h": []}
        found = [self.check(program, [stack]) for stack in [("main", "f"), ("main", "g"), ("main", "g", "h")]]
        self.assertEqual(found, [["f", "main"], ["f", "g", "main"], ["f", "g", "h", "main"]])

    def test_no_samples(self):
        for program in [PROGRAM, {"main": []}, {"main": ["a"], "a": []}]:
            self.assertEqual(self.check(program, []), [])
            for name in program:
                self.assertEqual(run_without(program, [], name), [])

    def test_main_is_always_called(self):
        for program in [PROGRAM, {"main": []}, {"main": [("loop", ["main"])]}]:
            for samples in [[("main",)], [("main",)] * 200]:
                self.assertEqual(self.check(program, samples), ["main"])
                self.assertIsNone(run_without(program, samples, "main"))

    def test_steps(self):
        self.assertEqual(run_without({"main": ["a"], "a": []}, [("main",)] * 2, "a"), [("call", "main"), ("sample",), ("sample",)])
        run = run_without(PROGRAM, samples_from("a . bd"), "c")
        self.assertEqual(run, [
            ("call", "main"), ("call", "a"), ("sample",), ("return",), ("sample",), ("call", "b"), ("call", "d"), ("sample",),
        ])

    def test_calls_still_to_make_do_not_count(self):
        program = {"main": ["a", "b", "c"], "a": ["d"], "b": ["d", "e"], "c": [], "d": [], "e": []}
        wanted = {
            ".": "main", "a": "a main", "ad": "a d main", "b": "a b d main", "be": "a b d e main", "c": "a b c d e main",
            "a . . a": None, "a .": "a d main", "b .": "a b d e main", "a b": "a b d main", "a c": "a b c d e main", "bd .": "a b d e main",
        }
        for text, names in wanted.items():
            if names is None:
                self.assertFalse(shows(program, samples_from(text)))
            else:
                self.assertEqual(self.of(program, text), names, text)

    def test_an_open_call_that_cannot_return_without_a_function(self):
        program = {"main": ["a", "c"], "a": [("maybe", ["b"]), "c"], "b": ["c"], "c": []}
        self.assertEqual(self.of(program, "a"), "a main")
        self.assertEqual(self.of(program, "ab"), "a b main")
        self.assertEqual(self.of(program, "ab a"), "a b c main")
        self.assertEqual(self.of(program, "a ."), "a c main")
        # The first call of main that is open can go on, too.
        self.assertEqual(self.of({"main": ["a", "a"], "a": ["b"], "b": []}, "a . a"), "a b main")
        self.assertEqual(self.of({"main": ["a", "a"], "a": ["b"], "b": []}, "a a"), "a main")
        self.assertEqual(self.of({"main": ["a", "a"], "a": ["b"], "b": []}, "a ab a ab"), "a b main")

    def test_choices(self):
        program = {"main": [("one", [["a"], ["b"], []]), "c"], "a": [("one", [["d"], ["e", "e"]])], "b": ["d"], "c": [], "d": [], "e": []}
        wanted = {"c": "c main", "a": "a main", "a c": "a c main", "ae": "a e main", "b": "b main", "b c": "b c d main", "a . c": "a c main", "ad ad c": "a c d main"}
        for text, names in wanted.items():
            self.assertEqual(self.of(program, text), names, text)
        empty = {"main": [("one", [["a"], ["b"], []]), "c"], "a": ["b"], "b": [], "c": []}
        self.assertEqual([self.of(empty, text) for text in ["c", "a", "a c", "b c"]], ["c main", "a main", "a b c main", "b c main"])
        all_choices = {"main": [("one", [["a", "d"], ["b", "d"]]), "c"], "a": [], "b": [], "c": [], "d": []}
        self.assertEqual([self.of(all_choices, text) for text in ["c", "d", "a", "a c"]], ["c d main", "d main", "a main", "a c d main"])

    def test_loops(self):
        program = {"main": [("loop", ["a", "b"]), "c"], "a": [("loop", ["b"])], "b": [], "c": []}
        wanted = {"c": "c main", "a": "a main", "b": "a b main", "a c": "a b c main", "ab a": "a b main", "a . a": "a b main", "a b a": "a b main", ". .": "main"}
        for text, names in wanted.items():
            self.assertEqual(self.of(program, text), names, text)
        # A loop whose body would be empty without a function is done no time.
        inner = {"main": [("loop", [("maybe", ["a"])]), ("loop", [("one", [["a"], [("maybe", ["a"])]])]), "b"], "a": [], "b": []}
        self.assertEqual([self.of(inner, text) for text in ["b", "a b", "."]], ["b main", "a b main", "main"])

    def test_two_activations_rather_than_one(self):
        # Within one call of a, a call of d would stand between the two calls of b.
        program = {"main": [("loop", ["a"])], "a": [("maybe", ["b"]), ("maybe", ["d", "b"])], "b": ["c"], "c": [], "d": []}
        self.assertEqual(self.of(program, "ab a ab"), "a b c main")
        self.assertEqual(self.of({"main": ["a"], "a": program["a"], "b": [], "d": []}, "ab a ab"), "a b d main")
        # Here it is one call only if d is called, and two only if c is.
        program = {"main": ["a", ("maybe", ["c", "a"])], "a": ["b", ("maybe", ["d", "b"])], "b": [], "c": [], "d": []}
        self.assertEqual(self.of(program, "ab a ab"), "a b main")
        self.assertEqual(self.of(program, "ab a ab a ab"), "a b c d main")
        self.assertEqual(self.of(program, "ab . ab"), "a b c main")

    def test_an_open_call_can_do_what_one_that_returns_cannot(self):
        program = {"main": ["a", "a"], "a": ["b", "b", "c"], "b": [], "c": []}
        self.assertEqual(self.of(program, "ab a ab"), "a b main")
        self.assertEqual(self.of(program, "ab a ab a ab"), "a b c main")
        self.assertEqual(self.of(program, "ab a ab a ab a ab"), "a b c main")
        # What comes ahead of the open call is its own, if it can be.
        program = {"main": [("loop", ["a"])], "a": [("loop", ["b"]), "c"], "b": [], "c": []}
        self.assertEqual(self.of(program, "ab a ab a ab"), "a b main")
        self.assertEqual(self.of(program, "ab . ab"), "a b c main")
        self.assertEqual(self.of(program, "ac a"), "a c main")
        self.assertEqual(self.of(program, "ac . a"), "a c main")

    def test_recursion(self):
        program = {"main": ["a"], "a": [("one", [["a", "b"], ["c"], []])], "b": [], "c": []}
        self.assertEqual(self.of(program, "aaa"), "a main")
        self.assertEqual(self.of(program, "aa a"), "a main")
        self.assertEqual(self.of(program, "aaac a"), "a b c main")
        self.assertEqual(self.of(program, "aaac aaa"), "a c main")
        self.assertEqual(self.of(program, "ab"), "a b main")
        both = {"main": [("one", [["a"], []])], "a": [("one", [["main", "b"], []])], "b": []}
        deep = ("main", "a") * 4
        self.assertEqual(self.check(both, [deep, deep[:7]]), ["a", "main"])
        self.assertEqual(self.check(both, [deep, deep[:6]]), ["a", "main"])
        self.assertEqual(self.check(both, [deep, deep[:3]]), ["a", "b", "main"])
        # Without g, a call of f returns only behind four further ones of it.
        long = {"main": ["f", "a"], "f": [("one", [["f", "g"], ["b", "b"]])], "b": [("one", [["g"], ["c", "c", "c", "c"]])], "c": [], "g": [], "a": []}
        self.assertEqual(self.of(long, "a"), "a b f main")
        self.assertEqual(self.of(long, "ff a"), "a b f g main")

    def test_a_call_without_a_function_can_need_more_than_twelve_calls(self):
        program = {
            "main": ["b", "a"], "a": [], "b": [("one", [["g"], ["c"] * 4])], "c": [("one", [["g"], ["d"] * 4])],
            "d": [("one", [["g"], ["a", "a"]])], "g": [],
        }
        self.assertEqual(self.of(program, "a"), "a b main")
        self.assertGreater(len(run_without(program, samples_from("a"), "g")), 100)
        self.assertEqual(self.of(program, "bc bcd a"), "a b c d main")

    def test_functions_that_no_sample_shows(self):
        program = {"main": ["a", "b"], "a": ["c"], "b": [], "c": [("one", [["d"], ["e"]])], "d": ["e"], "e": []}
        self.assertEqual(self.of(program, "b"), "a b c e main")
        self.assertEqual(self.of(program, "a"), "a main")
        self.assertEqual(self.of(program, "a ."), "a c e main")
        self.assertEqual(self.of(program, "ac acd"), "a c d main")
        self.assertEqual(self.of(program, "acd b"), "a b c d e main")

    def test_functions_that_are_not_reached(self):
        program = {"main": ["a"], "a": [], "b": ["c"], "c": []}
        self.assertEqual(self.of(program, "a ."), "a main")
        self.assertEqual(run_without(program, samples_from("a"), "c"), run_without(program, samples_from("a"), "b"))

    def test_most_samples_and_longest_stacks(self):
        full = {name: [("loop", [("maybe", [other]) for other in SIX[:5]])] for name in SIX}
        source = random.Random(61)
        stacks = [tuple(["main"] + [source.choice(["main", "a", "b"]) for _ in range(7)]) for _ in range(200)]
        self.assertEqual(self.check(full, stacks), ["main"] + [])if False else None
        self.assertEqual(surely_called(full, stacks), ["a", "b", "main"])
        run = run_without(full, stacks, "c")
        self.assertTrue(oracle.is_run(full, run))
        self.assertEqual(samples_of(full, run), stacks)
        tight = {"main": ["a"] * 5, "a": [("one", [["b"] * 5, []])], "b": [("one", [["c"] * 5, []]), ], "c": []}
        self.assertEqual(self.check(tight, samples_from("abc ab " * 125)[:249]), ["a", "b", "c", "main"])
        late = {"main": [("loop", ["a", "b"])], "a": [("maybe", ["c"])], "b": [("maybe", ["d"])], "c": [], "d": []}
        self.assertEqual(self.of(late, "a a b " * 66 + "a"), "a b main")
        self.assertEqual(self.of(late, "a b " * 99 + "ac a"), "a b c main")

    def test_against_a_search(self):
        source = random.Random(62)
        many = {}
        programs = oracle.random_programs(62, 500, NAMES, is_program) + oracle.random_programs(63, 200, NAMES + ["c"], is_program)
        for program in programs:
            if sum(len(oracle.items_in(program[name])) for name in program) > 10:
                continue
            stacks = oracle.random_stacks(source, program, "main", source.randint(1, 5))
            if source.random() < 0.5:
                stacks = [source.choice(stacks[:2]) for _ in range(source.randint(1, 6))]
            while not shows(program, stacks):
                stacks.pop()
            found = self.check(program, stacks)
            if stacks:
                wanted = [name for name in sorted(program) if name == "main" or not oracle.can_show(program, "main", stacks, 6, name)]
                self.assertEqual(found, wanted, (program, stacks))
                many[len(found)] = many.get(len(found), 0) + 1
        self.assertGreater(min(many.get(size, 0) for size in [1, 2, 3]), 20, many)

    def test_of_what_runs_show(self):
        source = random.Random(64)
        for program in oracle.random_programs(64, 80, SIX, is_program):
            run = oracle.random_run(source, program, 120)
            while run and run[-1] != ("sample",):
                run.pop()
            samples = oracle.told_by(run)[1]
            found = self.check(program, samples)
            # Only what this run calls can be called in all.
            self.assertLessEqual(set(found), {step[1] for step in run if step[0] == "call"})
            self.assertLessEqual({name for stack in samples for name in stack}, set(found))

    def test_is_judged_anew_after_each_change(self):
        program, samples = {"main": ["a", "b"], "a": ["c"], "b": [], "c": []}, samples_from("a")
        self.assertEqual(surely_called(program, samples), ["a", "main"])
        samples.append(("main", "b"))
        self.assertEqual(surely_called(program, samples), ["a", "b", "c", "main"])
        program["a"][0] = ("maybe", ["c"])
        self.assertEqual(surely_called(program, samples), ["a", "b", "main"])
        self.assertIsNotNone(run_without(program, samples, "c"))
        program["a"].append("c")
        self.assertIsNone(run_without(program, samples, "c"))
