"""[29] to [31]."""

import itertools
import random
import unittest

from stacksamples.conflicts import conflict, fewest_left_out, is_conflict, shown_rest
from stacksamples.errors import InvalidProgram, InvalidSamples, TooLarge
from stacksamples.programs import is_program
from stacksamples.shows import shows
from tests import oracle
from tests.oracle import BAD_PROGRAMS, PROGRAM, turned, unchanged

NAMES = ["main", "a", "b"]
ONE_LIST = [conflict, fewest_left_out, shown_rest]


def samples_from(text):
    return [("main",) if word == "." else ("main",) + tuple(word) for word in text.split()]


def is_least(program, samples, numbers):
    """Whether samples with these numbers are not shown alone, but are if any one is left out."""
    chosen = [samples[number] for number in numbers]
    fewer = [chosen[:at] + chosen[at + 1:] for at in range(len(chosen))]
    return not shows(program, chosen) and all(shows(program, rest) for rest in fewer)


class Errors(unittest.TestCase):
    def test_programs(self):
        for program in BAD_PROGRAMS:
            for samples in [[], None, [("main",)], [("zz",)], [("main",)] * 10, "main"]:
                with self.subTest(program=repr(program), samples=samples):
                    for call in ONE_LIST:
                        self.assertRaises(InvalidProgram, call, program, samples)
                    for value in [None, [], [0], "x"]:
                        self.assertRaises(InvalidProgram, is_conflict, program, samples, value)

    def test_samples(self):
        bad = oracle.bad_stack_lists(("main",)) + oracle.bad_stack_lists(("main", "a", "c"))
        bad += [[("a",)], [("main",), ("a",)], [("main", "d"), ("b", "d")], [("main",)] * 9 + [("a",)]]
        for samples in bad:
            with self.subTest(samples=repr(samples)):
                for call in ONE_LIST:
                    self.assertRaises(InvalidSamples, call, PROGRAM, samples)
                for value in [None, [], [0], "x"]:
                    self.assertRaises(InvalidSamples, is_conflict, PROGRAM, samples, value)

    def test_too_many(self):
        for call in [fewest_left_out, shown_rest]:
            for many in [10, 11, 200, 201]:
                for stack in [("main",), ("main", "b"), ("main", "d")]:
                    with self.assertRaises(TooLarge) as caught:
                        call(PROGRAM, [stack] * many)
                    self.assertEqual(caught.exception.limit, 9)
            # What is wrong with the program or the samples comes first.
            self.assertRaises(InvalidProgram, call, {}, [("main",)] * 10)
            self.assertRaises(InvalidSamples, call, PROGRAM, [("main",)] * 10 + [("a",)])
            call(PROGRAM, [("main", "d")] * 9)


class Conflict(unittest.TestCase):
    def check(self, program, samples):
        """The conflict that is found, which must be one; None only if the samples are shown."""
        found = unchanged(self, conflict, program, samples)
        self.assertEqual(conflict(turned(program), list(samples)), found)
        if found is None:
            self.assertTrue(shows(program, samples), (program, samples))
            return None
        self.assertIs(type(found), list)
        self.assertEqual(found, sorted(set(found)))
        self.assertTrue(all(type(number) is int for number in found))
        self.assertTrue(is_least(program, samples, found), (program, samples, found))
        self.assertIs(is_conflict(program, samples, found), True)
        return found

    def test_example(self):
        a, b = ("main", "a"), ("main", "b")
        found = [conflict(PROGRAM, samples) for samples in [[a, b, a], [b, a, b], [a, ("main", "c"), a], []]]
        self.assertEqual(found, [None, [0, 1, 2], [1], None])

    def test_none(self):
        for text in ["", ".", "a b a", "ac a ac . b bd bc . a", ". " * 200]:
            self.assertIsNone(self.check(PROGRAM, samples_from(text)))

    def test_stacks_that_alone_do_not_fit(self):
        for text, wanted in [("c", [0]), ("a . d", [2]), ("a ad a", [1]), (". " * 199 + "bda", [199]), ("main . a", [0])]:
            program = dict(PROGRAM)
            samples = samples_from(text) if "main" not in text else [("main", "main"), ("main",), ("main", "a")]
            self.assertEqual(self.check(program, samples), wanted)

    def test_own_stacks_belong_to_conflicts(self):
        self.assertEqual(self.check(PROGRAM, samples_from(". b b . b . b")), [2, 3, 4])
        self.assertEqual(self.check(PROGRAM, samples_from("b . b")), [0, 1, 2])
        self.assertEqual(self.check({"main": ["a"], "a": []}, samples_from("a a . . a a")) in [[1, 2, 4], [1, 3, 4], [0, 2, 4]], True)

    def test_one_stack_twice(self):
        found = self.check(PROGRAM, samples_from("b b b a a b b b"))
        self.assertEqual([samples_from("b b b a a b b b")[number][1] for number in found], ["b", "a", "b"])

    def test_nested_conflicts(self):
        program = {"main": ["a"], "a": ["b", "b"], "b": ["c", "d"], "c": [], "d": []}
        self.assertIsNone(self.check(program, samples_from("abc abd abc abd")))
        self.assertEqual(self.check(program, samples_from("abd abc abd abc")), [0, 1, 2, 3])
        self.assertEqual(self.check(program, samples_from("abc abd abc abd abc")), [1, 2, 3, 4])
        self.assertEqual(self.check(program, samples_from("abd . abc")), [0, 1, 2])
        self.assertGreater(len(self.check(program, samples_from("abc ab abd ab abc a abd a ab abc"))), 2)

    def test_recursion(self):
        program = {"main": [("maybe", ["main", "a"])], "a": [("loop", ["a"])]}
        deep = ("main",) * 7
        self.assertIsNone(self.check(program, [deep + ("a",), deep, ("main", "a", "a")]))
        found = self.check(program, [deep, deep + ("a",), deep[:5], deep, deep[:2]])
        self.assertIn(found, [[0, 2, 3], [1, 2, 3]])

    def test_choices(self):
        program = {"main": [("one", [["a", "a"], ["b", "a"], []]), ("loop", ["c"])], "a": [], "b": [], "c": []}
        self.assertIsNone(self.check(program, samples_from("b a . c . c")))
        self.assertEqual(self.check(program, samples_from("a . b")), [0, 2])
        self.assertEqual(self.check(program, samples_from("c b c . a")), [0, 1])

    def test_most_samples(self):
        long = {"main": ["a"] * 5, "a": [("one", [["b"] * 5, []])], "b": [("one", [["c"] * 5, []])], "c": []}
        self.assertTrue(is_program(long))
        samples = samples_from("abc ab " * 126)
        self.assertIsNone(self.check(long, samples[:249]))
        self.assertEqual(self.check(long, samples), list(range(251)))
        self.assertEqual(len(self.check(long, samples[:1] * 50 + samples + samples[:1] * 50)), 251)
        few = samples_from(". " * 80 + "b " + ". a " * 50 + "b " + ". " * 18)
        self.assertLessEqual(len(self.check(PROGRAM, few)), 5)

    def test_long_stacks(self):
        names = ["main", "a", "b", "c", "d", "e"]
        source = random.Random(41)
        program = {name: [("one", [["main", "a", "b", "c", "d"], []])] for name in names}
        samples = [tuple(["main"] + [source.choice(names[:5]) for _ in range(7)]) for _ in range(200)]
        self.assertEqual(len(self.check(program, samples)), 2)

    def test_at_random(self):
        source = random.Random(42)
        sizes = {}
        for program in oracle.random_programs(42, 600, NAMES, is_program):
            found = self.check(program, oracle.random_stacks(source, program, "main", source.randint(1, 14), 5))
            size = None if found is None else len(found)
            sizes[size] = sizes.get(size, 0) + 1
        self.assertGreater(min(sizes.get(size, 0) for size in [None, 1, 2, 3, 4]), 3, sizes)

    def test_is_judged_anew_after_each_change(self):
        program, samples = {"main": ["a"], "a": [], "b": []}, samples_from("a b")
        self.assertEqual(conflict(program, samples), [1])
        program["main"].append("b")
        self.assertIsNone(conflict(program, samples))
        samples.append(("main", "a"))
        self.assertEqual(conflict(program, samples), [1, 2])


class IsConflict(unittest.TestCase):
    SAMPLES = samples_from("b a ac b")

    def test_example(self):
        values = [[0, 1, 3], [0, 2, 3], [0, 1, 2, 3], [0, 3], [], None]
        found = [is_conflict(PROGRAM, self.SAMPLES, value) for value in values]
        self.assertEqual(found, [True, True, False, False, False, False])

    def test_values_of_other_kinds(self):
        values = [
            None, True, False, 0, 1, "", "013", b"013", (), (0, 1, 3), {}, {0: 1}, {0, 1, 3}, set(), object(), int, range(4),
            iter([0, 1, 3]), [None], [[0, 1, 3]], [(0, 1, 3)], ["0", "1", "3"], [0, 1, "3"], [0, 1, 3.0], [0.0, 1, 3],
            [False, True, 3], [0, True, 3], [False, 1, 3], [0, 1, None], [0, [1], 3], [0, 1, 3, None], [None, 0, 1, 3], [0, 1, 3, []],
            [0, 1, {}], [0, (1,), 3], [object()], [0, int, 3], [[]] * 400, [None] * 400,
        ]
        for value in values:
            with self.subTest(value=repr(value)):
                self.assertIs(is_conflict(PROGRAM, self.SAMPLES, value), False)
        nested = []
        for _ in range(19):
            nested = [nested]
        self.assertIs(is_conflict(PROGRAM, self.SAMPLES, nested), False)

    def test_order_and_range(self):
        values = [
            [3, 1, 0], [1, 0, 3], [0, 3, 1], [0, 0, 1, 3], [0, 1, 1, 3], [0, 1, 3, 3], [-4, 1, 3], [0, 1, -1], [-4, -3, -1], [0, 1, 4],
            [-1, 1, 3], [-4, 1, -1], [0, 1, 2**70], [-2**70, 1, 3], [0, 1, 3, 4], [4], [-1], list(range(400)), [0] * 400, [-1, 0, 1, 3],
        ]
        for value in values:
            self.assertIs(unchanged(self, is_conflict, PROGRAM, self.SAMPLES, value), False, value)

    def test_stacks_in_another_order_are_no_conflict(self):
        samples = samples_from("b b . a b a")
        self.assertEqual([is_conflict(PROGRAM, samples, value) for value in [[0, 3, 4], [1, 3, 4]]], [True, True])
        for value in [[0, 3, 1], [1, 3, 0], [4, 3, 0], [4, 3, 1], [4, 5, 0], [1, 5, 4], [3, 0, 4], [0, 3, 0]]:
            self.assertIs(is_conflict(PROGRAM, samples, value), False, value)

    def test_true_stands_for_no_number(self):
        samples = samples_from("a d")
        self.assertIs(is_conflict(PROGRAM, samples, [1]), True)
        self.assertIs(is_conflict(PROGRAM, samples, [True]), False)
        self.assertIs(is_conflict(PROGRAM, samples[1:], [0]), True)
        self.assertIs(is_conflict(PROGRAM, samples[1:], [False]), False)

    def test_no_samples_and_shown_samples(self):
        for samples in [[], samples_from("a b a")]:
            for value in [[], [0], [0, 1, 2], None]:
                self.assertIs(is_conflict(PROGRAM, samples, value), False)

    def test_not_the_least(self):
        samples = samples_from("d d b . b a b")
        wanted = [[0], [1], [2, 3, 4], [2, 5, 6], [2, 3, 6], [4, 5, 6]]
        values = [list(row) for many in range(8) for row in itertools.combinations(range(7), many)]
        self.assertEqual(sorted(value for value in values if is_conflict(PROGRAM, samples, value)), sorted(wanted))

    def test_many_samples(self):
        samples = samples_from("b a " * 100 + "b")
        self.assertIs(is_conflict(PROGRAM, samples, [0, 199, 200]), True)
        self.assertIs(is_conflict(PROGRAM, samples, list(range(201))), False)
        self.assertIs(is_conflict(PROGRAM, samples, list(range(200))), False)
        self.assertIs(is_conflict(PROGRAM, samples, [0, 200]), False)

    def test_all_values_against_shows(self):
        source = random.Random(43)
        found = {True: 0, False: 0}
        for program in oracle.random_programs(43, 150, NAMES, is_program):
            samples = oracle.random_stacks(source, program, "main", 6, 4)
            for many in range(7):
                for row in itertools.combinations(range(6), many):
                    wanted = is_least(program, samples, row)
                    found[wanted] += 1
                    self.assertIs(is_conflict(program, samples, list(row)), wanted, (program, samples, row))
            self.assertIs(is_conflict(turned(program), samples, [0, 1]), is_conflict(program, samples, [0, 1]))
        self.assertGreater(found[True], 100, found)

    def test_is_judged_anew_after_each_change(self):
        program, samples, value = {"main": ["a", "b"], "a": [], "b": []}, samples_from("b a b"), [0, 1]
        self.assertIs(is_conflict(program, samples, value), True)
        program["main"].append("a")
        self.assertIs(is_conflict(program, samples, value), False)
        value.append(2)
        self.assertIs(is_conflict(program, samples, value), True)
        samples.pop()
        self.assertIs(is_conflict(program, samples, value), False)


class MostShown(unittest.TestCase):
    def check(self, program, samples):
        found = unchanged(self, shown_rest, program, samples)
        self.assertIs(type(found), list)
        self.assertEqual(found, sorted(set(found)))
        self.assertTrue(shows(program, [samples[number] for number in found]), (program, samples, found))
        most = max(
            len(row) for many in range(len(samples) + 1) for row in itertools.combinations(range(len(samples)), many)
            if shows(program, [samples[number] for number in row])
        )
        self.assertEqual(len(found), most, (program, samples, found))
        self.assertEqual(unchanged(self, fewest_left_out, program, samples), len(samples) - most)
        self.assertEqual(shown_rest(turned(program), list(samples)), found)
        self.assertEqual(fewest_left_out(turned(program), list(samples)), len(samples) - most)
        return found

    def test_examples(self):
        a, b = ("main", "a"), ("main", "b")
        found = [fewest_left_out(PROGRAM, samples) for samples in [[a, b, a], [b, a, b], [a, b, a, b, a]]]
        self.assertEqual(found, [0, 1, 1])
        self.assertEqual(shown_rest(PROGRAM, [b, ("main", "d"), a]), [0, 2])

    def test_edges(self):
        self.assertEqual([shown_rest(PROGRAM, []), fewest_left_out(PROGRAM, [])], [[], 0])
        for text, wanted in [("d", []), ("d d d", []), (".", [0]), (". . .", [0, 1, 2]), ("d a d", [1]), ("a b a", [0, 1, 2])]:
            self.assertEqual(self.check(PROGRAM, samples_from(text)), wanted)
        for text in ["d " * 9, ". " * 9, "b a " * 4 + "b", "b . " * 4 + "b", "bc bd " * 4, "ac . ac . ac . a"]:
            self.check(PROGRAM, samples_from(text))

    def test_more_than_the_first_ones(self):
        # The first sample excludes all others.
        program = {"main": ["a", ("loop", ["b"]), "c"], "a": [], "b": [], "c": []}
        self.assertEqual(self.check(program, samples_from("c b . b a b b b")), [1, 2, 3, 5, 6, 7])
        self.assertEqual(self.check(program, samples_from("b b b . b b a . c")), [0, 1, 2, 3, 4, 5, 7, 8])
        self.assertEqual(self.check(program, samples_from("c c c b a")), [0, 1, 2])

    def test_long_stacks(self):
        names = ["main", "a", "b", "c", "d", "e"]
        source = random.Random(44)
        program = {name: [("one", [["main", "a", "b", "c", "d"], []])] for name in names}
        self.check(program, [tuple(["main"] + [source.choice(names[:5]) for _ in range(7)]) for _ in range(9)])
        loops = {name: [("loop", ["main", "a", "b", "c", "d"])] for name in names}
        self.assertEqual(self.check(loops, [("main",) * 8, ("main", "d") * 4] * 4), list(range(8)))

    def test_at_random(self):
        source = random.Random(45)
        seen = {}
        for program in oracle.random_programs(45, 80, NAMES, is_program):
            samples = oracle.random_stacks(source, program, "main", source.randint(3, 8), 4)
            left_out = len(samples) - len(self.check(program, samples))
            seen[left_out] = seen.get(left_out, 0) + 1
        self.assertGreater(min(seen.get(many, 0) for many in [0, 1, 2]), 3, seen)
