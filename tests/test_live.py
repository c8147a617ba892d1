"""[44] to [47]."""

import copy
import random
import unittest

from stacksamples.conflicts import is_conflict
from stacksamples.errors import (
    InvalidIndex, InvalidProgram, InvalidSamples, InvalidStack, NothingToUndo, NotShown, TooLarge,
)
from stacksamples.live import Profile
from stacksamples.nexts import first_unshown, next_stacks
from stacksamples.programs import is_program
from stacksamples.shows import shows
from tests import oracle
from tests.oracle import BAD_PROGRAMS, PROGRAM, turned

NAMES = ["main", "a", "b"]
SIX = ["main", "a", "b", "c", "d", "e"]
A, B, MAIN = ("main", "a"), ("main", "b"), ("main",)
NO_NUMBERS = [
    None, True, False, "", "0", b"0", 0.0, 1.0, (), [], [0], (0,), {}, set(), object(), int, -1, -2, 200, 2**70, -2**70, "main", MAIN,
]


def samples_from(text):
    return [("main",) if word == "." else ("main",) + tuple(word) for word in text.split()]


def state(profile):
    """All that a profile shows of itself."""
    return profile.samples, profile.depth_now, profile.next_names, len(profile)


def history(profile):
    """The samples that each undo leads to, up to the beginning."""
    profile, found = profile.fork(), []
    while True:
        found.append(profile.samples)
        try:
            profile.undo()
        except NothingToUndo:
            return found


class Profiles(unittest.TestCase):
    def assert_state(self, profile, samples, program=PROGRAM):
        """A profile has these samples, and what it tells of them is what the functions tell."""
        self.assertEqual(profile.samples, samples)
        self.assertEqual(len(profile), len(samples))
        self.assertEqual(profile.depth_now, len(samples[-1]) if samples else 0)
        last = samples[-1] if samples else ()
        wanted = []
        if len(last) < 8:
            wanted = [name for name in sorted(program) if last + (name,) != (name,) or name == "main"]
            wanted = [name for name in wanted if shows(program, samples + [last + (name,)])]
        self.assertEqual(profile.next_names, wanted)
        self.assertIs(type(profile.next_names), list)
        self.assertIs(type(profile.samples), list)
        self.assertIsNone(first_unshown(program, samples))
        if len(last) in (1, 2):
            longer = [stack for stack in next_stacks(program, samples, 3) if stack[:-1] == last]
            self.assertEqual([stack[-1] for stack in longer], wanted)

    def assert_refused(self, profile, error, call, *values):
        """A call raises an error and leaves the profile as it was."""
        before, steps = state(profile), history(profile)
        with self.assertRaises(error) as caught:
            call(*values)
        self.assertIs(type(caught.exception), error)
        self.assertEqual((state(profile), history(profile)), (before, steps))
        return caught.exception

    def test_examples(self):
        profile = Profile({"main": ["a", "b", "a"], "a": [], "b": []})
        self.assertEqual([profile.add(A, B), profile.add(), profile.add(MAIN)], [2, 2, 3])
        profile = Profile({"main": ["a", "b"], "a": [], "b": []})
        self.assertEqual(self.assert_refused(profile, NotShown, profile.add, MAIN, B, A).numbers, [1, 2])
        done = [profile.add(A, B), profile.drop(0), profile.add(MAIN), profile.undo()]
        self.assertEqual([done, profile.samples, profile.undo(), profile.samples], [[2, A, 2, None], [B], None, [A, B]])
        profile = Profile({"main": ["a", "b", "a"], "a": [("loop", ["c"])], "b": ["c"], "c": []})
        found = [(profile.depth_now, profile.next_names)]
        profile.add(A, ("main", "b", "c"), MAIN)
        self.assertEqual(found + [(profile.depth_now, profile.next_names)], [(0, ["main"]), (1, ["a"])])
        program = {"main": ["a"], "a": []}
        profile = Profile.of(program, [MAIN, A])
        other = profile.fork()
        found = [profile == other, other.drop(0), profile == other, len(profile), len(other), profile == program]
        self.assertEqual(found, [True, MAIN, False, 2, 1, False])

    def test_a_new_profile(self):
        for program in [PROGRAM, {"main": []}, {"main": [("maybe", ["main"])]}]:
            profile = Profile(program)
            self.assert_state(profile, [], program)
            self.assertEqual(profile.next_names, ["main"])
            self.assert_refused(profile, NothingToUndo, profile.undo)
            self.assert_refused(profile, InvalidIndex, profile.drop, 0)
            self.assertEqual(profile.add(), 0)

    def test_wrong_programs(self):
        for program in BAD_PROGRAMS:
            with self.subTest(program=repr(program)):
                self.assertRaises(InvalidProgram, Profile, program)
                for samples in [[], None, [("zz",)], [B, A]]:
                    self.assertRaises(InvalidProgram, Profile.of, program, samples)

    def test_wrong_stacks(self):
        profile = Profile.of(PROGRAM, [A])
        for bad in oracle.BAD_STACKS + [("a",), ("b", "d"), [A], (A,), ("main", "e")]:
            for stacks in [[bad], [A, bad], [bad, A], [("main", "d"), bad], [bad, ("main", "d")], [bad] * 3]:
                with self.subTest(stacks=repr(stacks)):
                    self.assert_refused(profile, InvalidStack, profile.add, *stacks)
        # More than 200 samples come behind a wrong stack.
        full = Profile.of(PROGRAM, [MAIN] * 200)
        for bad in oracle.BAD_STACKS:
            self.assert_refused(full, InvalidStack, full.add, MAIN, bad)

    def test_too_many_samples(self):
        profile = Profile.of(PROGRAM, [MAIN] * 199)
        self.assertEqual(self.assert_refused(profile, TooLarge, profile.add, MAIN, MAIN).limit, 200)
        # Whether these would be shown comes behind.
        self.assertEqual(self.assert_refused(profile, TooLarge, profile.add, ("main", "d"), MAIN).limit, 200)
        self.assertEqual(profile.add(MAIN), 200)
        self.assertEqual(profile.add(), 200)
        self.assert_state(profile, [MAIN] * 200)
        for stacks in [[MAIN], [("main", "d")], [A] * 12]:
            self.assertEqual(self.assert_refused(profile, TooLarge, profile.add, *stacks).limit, 200)
        self.assertEqual([profile.drop(0), profile.add(A), profile.drop(199), profile.add(B)], [MAIN, 200, A, 200])

    def test_more_than_two_hundred_samples_from_elsewhere(self):
        profile = Profile.of(PROGRAM, [MAIN] * 201 + [A])
        self.assert_state(profile, [MAIN] * 201 + [A])
        for stacks in [[], [MAIN], [("main", "d")]]:
            self.assertEqual(self.assert_refused(profile, TooLarge, profile.add, *stacks).limit, 200)
        self.assert_refused(profile, InvalidStack, profile.add, "main")
        self.assertEqual([profile.drop(0), profile.drop(200)], [MAIN, A])
        self.assertEqual(profile.add(), 200)
        self.assertEqual([profile.undo(), len(profile), profile.undo(), len(profile)], [None, 201, None, 202])
        self.assertEqual(Profile.of(PROGRAM, [A] * 400), Profile.of(PROGRAM, [A] * 400))

    def test_samples_that_would_not_be_shown(self):
        profile = Profile.of(PROGRAM, samples_from("a b"))
        for text, numbers in [("d", [2]), ("a b", [1, 2, 3]), (". . b", [1, 2, 4]), ("bd bc bd", [3, 4]), ("b . . d", None)]:
            stacks = samples_from(text)
            error = self.assert_refused(profile, NotShown, profile.add, *stacks)
            self.assertTrue(is_conflict(PROGRAM, profile.samples + stacks, error.numbers), (text, error.numbers))
            error.numbers.append(99)
        self.assertEqual(profile.samples, samples_from("a b"))

    def test_adding(self):
        profile = Profile(PROGRAM)
        self.assertEqual([profile.add(A), profile.add(("main", "a", "c"), A), profile.add(), profile.add(*samples_from(". b bd bc . a ac a ac a . ."))], [1, 3, 3, 15])
        self.assert_state(profile, samples_from("a ac a . b bd bc . a ac a ac a . ."))
        self.assertEqual(profile.undo(), None)
        self.assert_state(profile, samples_from("a ac a"))

    def test_dropping(self):
        profile = Profile.of(PROGRAM, samples_from("a ac b bc"))
        for number in NO_NUMBERS + [4, 5]:
            with self.subTest(number=repr(number)):
                self.assert_refused(profile, InvalidIndex, profile.drop, number)
        self.assertEqual(profile.drop(1), ("main", "a", "c"))
        self.assert_state(profile, samples_from("a b bc"))
        self.assertEqual(profile.drop(2), ("main", "b", "c"))
        self.assertEqual(profile.drop(0), A)
        self.assert_state(profile, [B])
        self.assertEqual(profile.drop(0), B)
        self.assert_state(profile, [])
        self.assert_refused(profile, InvalidIndex, profile.drop, 0)

    def test_dropping_makes_others_possible(self):
        profile = Profile.of(PROGRAM, samples_from("b a"))
        self.assert_refused(profile, NotShown, profile.add, B)
        profile.drop(0)
        self.assertEqual(profile.add(B), 2)
        self.assertEqual(profile.next_names, ["c", "d"])

    def test_undo_to_the_beginning(self):
        profile = Profile(PROGRAM)
        rows = [[]]
        for text in ["a", "ac a", "b"]:
            profile.add(*samples_from(text))
            rows.append(profile.samples)
        profile.drop(1)
        rows.append(profile.samples)
        # These calls change nothing, so there is nothing of them to revert.
        profile.add()
        self.assertRaises(InvalidIndex, profile.drop, 9)
        self.assertRaises(InvalidStack, profile.add, A, None)
        self.assertRaises(NotShown, profile.add, ("main", "d"))
        for samples in rows[:-1][::-1]:
            self.assertIsNone(profile.undo())
            self.assert_state(profile, samples)
        for _ in range(2):
            self.assert_refused(profile, NothingToUndo, profile.undo)
        self.assertEqual(profile.add(B), 1)
        self.assertEqual([profile.undo(), profile.samples], [None, []])

    def test_undo_is_not_undone(self):
        profile = Profile(PROGRAM)
        profile.add(A)
        profile.add(B)
        profile.undo()
        profile.drop(0)
        self.assertEqual(history(profile), [[], [A], []])
        profile.undo()
        profile.undo()
        self.assert_refused(profile, NothingToUndo, profile.undo)

    def test_an_equal_add_or_drop_is_a_change(self):
        profile = Profile.of(PROGRAM, [A, A])
        profile.drop(0)
        profile.add(A)
        self.assertEqual(history(profile), [[A, A], [A], [A, A]])

    def test_of(self):
        for text in ["", "a", "a b a", ". . ."]:
            samples = samples_from(text)
            kept = copy.deepcopy(samples)
            profile = Profile.of(PROGRAM, samples)
            self.assertIs(type(profile), Profile)
            samples.append(B)
            self.assert_state(profile, kept)
            self.assert_refused(profile, NothingToUndo, profile.undo)
            self.assertIsNot(Profile.of(PROGRAM, kept), profile)
        self.assertEqual(Profile.of(PROGRAM, []), Profile(PROGRAM))

    def test_of_with_wrong_samples(self):
        for samples in oracle.bad_stack_lists(A) + [[("a",)], [A, ("b", "d")], [("main", "d"), ("a",)]]:
            with self.subTest(samples=repr(samples)):
                self.assertRaises(InvalidSamples, Profile.of, PROGRAM, samples)
        for text in ["d", "b a b", "a b . bd bc bd"]:
            with self.assertRaises(NotShown) as caught:
                Profile.of(PROGRAM, samples_from(text))
            self.assertTrue(is_conflict(PROGRAM, samples_from(text), caught.exception.numbers))

    def test_forks(self):
        profile = Profile(PROGRAM)
        profile.add(A)
        profile.add(B)
        fork = profile.fork()
        self.assertIs(type(fork), Profile)
        self.assertIsNot(fork, profile)
        self.assertEqual(history(fork), history(profile))
        self.assertEqual(history(fork), [[A, B], [A], []])
        fork.undo()
        self.assertEqual((profile.samples, fork.samples), ([A, B], [A]))
        profile.drop(0)
        self.assertEqual((history(profile), history(fork)), ([[B], [A, B], [A], []], [[A], []]))
        second = fork.fork()
        second.add(A)
        fork.undo()
        self.assertEqual((history(second), history(fork)), ([[A, A], [A], []], [[]]))
        third = second.fork().fork()
        self.assertEqual(third, second)
        third.undo()
        self.assertEqual((third.samples, second.samples), ([A], [A, A]))
        self.assert_state(third, [A])
        self.assertEqual(Profile.of(PROGRAM, [A]).fork(), Profile.of(PROGRAM, [A]))
        self.assert_refused(fork, NothingToUndo, fork.undo)

    def test_equality(self):
        profile = Profile.of(PROGRAM, [A, B])
        same = Profile(turned(PROGRAM))
        same.add(A)
        same.add(B, B)
        self.assertFalse(profile == same)
        same.drop(2)
        self.assertTrue(profile == same)
        self.assertFalse(profile != same)
        self.assertTrue(profile == profile)
        for other in [Profile(PROGRAM), Profile.of(PROGRAM, [B, A]), Profile.of(PROGRAM, [A]), Profile.of({**PROGRAM, "e": []}, [A, B])]:
            self.assertFalse(profile == other)
            self.assertTrue(profile != other)
        # Programs that show the same samples need not be equal.
        self.assertFalse(Profile({"main": ["a"], "a": []}) == Profile({"main": [("maybe", ["a"])], "a": []}))
        for value in [None, True, 2, "", [], [A, B], (A, B), PROGRAM, (PROGRAM, [A, B]), object(), Profile, {}, len]:
            self.assertIs(profile == value, False)
            self.assertIs(value == profile, False)
            self.assertIs(profile != value, True)

    def test_next_names(self):
        wanted = {"a": ["c"], ".": ["a", "b"], "b": ["c", "d"], "bd": [], "bc b": [], "b .": ["a"], "a b a .": [], "ac": []}
        for text, names in wanted.items():
            profile = Profile.of(PROGRAM, samples_from(text))
            self.assertEqual(profile.next_names, names, text)
            self.assert_state(profile, samples_from(text))
        deep = {"main": [("loop", ["main", "a"])], "a": [("maybe", ["main"])]}
        for many in range(1, 9):
            profile = Profile.of(deep, [("main",) * many])
            self.assertEqual(profile.next_names, [] if many == 8 else ["a", "main"])
            self.assertEqual(profile.depth_now, many)
            self.assert_state(profile, [("main",) * many], deep)

    def test_next_names_behind_two_hundred_samples(self):
        profile = Profile.of(PROGRAM, [B] * 200)
        self.assertEqual(profile.next_names, ["c", "d"])
        self.assert_state(profile, [B] * 200)
        self.assertEqual(Profile.of(PROGRAM, [B, MAIN] + [MAIN] * 199).next_names, ["a"])

    def test_nothing_is_shared(self):
        program = {"main": ["a", ("loop", [("one", [["b"], ["a"]])])], "a": [], "b": []}
        kept = copy.deepcopy(program)
        profile = Profile(program)
        made = Profile.of(program, [A])
        profile.add(A, B)
        before = state(profile)
        program["main"][1][1][0][1][0][0] = "a"
        program["main"][1][1][0][1].append([])
        program["main"].pop(0)
        program["c"] = ["c"]
        program["a"].append("b")
        self.assertEqual(state(profile), before)
        self.assertEqual(profile.add(A, B), 4)
        self.assertTrue(profile == Profile.of(kept, [A, B, A, B]))
        self.assertTrue(made == Profile.of(kept, [A]))
        for values in [profile.samples, profile.next_names]:
            values.append(MAIN)
            values.clear()
        self.assert_state(profile, [A, B, A, B], kept)
        fork = profile.fork()
        fork.samples.clear()
        self.assertEqual(fork, profile)

    def test_passed_values_stay_as_they_are(self):
        program, samples = copy.deepcopy(PROGRAM), [A, B]
        profile = Profile.of(program, samples)
        profile.add(MAIN)
        profile.drop(0)
        self.assertEqual((program, samples), (PROGRAM, [A, B]))

    def test_many_calls(self):
        full = {name: [("loop", SIX[:5])] for name in SIX}
        stacks = [("main", "a", "b", "c", "d", "main", "a", last) for last in "bc"]
        profile = Profile(full)
        for number in range(200):
            self.assertEqual(profile.add(stacks[number % 2]), number + 1)
        self.assert_state(profile, stacks * 100, full)
        forks = [profile.fork() for _ in range(20)]
        for number in range(200):
            profile.undo()
            self.assertEqual(len(profile), 199 - number)
        self.assert_refused(profile, NothingToUndo, profile.undo)
        self.assertTrue(all(fork == Profile.of(full, stacks * 100) for fork in forks))
        for number in range(200):
            self.assertEqual(forks[0].drop(0), stacks[number % 2])
        for number in range(200):
            forks[0].undo()
        self.assertEqual(forks[0], forks[1])

    def test_at_random(self):
        source = random.Random(101)
        refused = {}
        for program in oracle.random_programs(101, 40, NAMES, is_program):
            profile, samples, earlier = Profile(program), [], []
            for _ in range(25):
                kind = source.choice(["add", "add", "add", "drop", "undo", "fork"])
                if kind == "add":
                    stacks = oracle.random_stacks(source, program, "main", source.randint(0, 2))
                    if shows(program, samples + stacks):
                        earlier += [samples] if stacks else []
                        samples = samples + stacks
                        self.assertEqual(profile.add(*stacks), len(samples))
                    else:
                        numbers = self.assert_refused(profile, NotShown, profile.add, *stacks).numbers
                        self.assertTrue(is_conflict(program, samples + stacks, numbers))
                        refused["add"] = refused.get("add", 0) + 1
                elif kind == "drop" and samples:
                    number = source.randrange(len(samples))
                    earlier.append(samples)
                    self.assertEqual(profile.drop(number), samples[number])
                    samples = samples[:number] + samples[number + 1:]
                elif kind == "undo" and earlier:
                    samples = earlier.pop()
                    self.assertIsNone(profile.undo())
                elif kind == "undo":
                    self.assert_refused(profile, NothingToUndo, profile.undo)
                    refused["undo"] = refused.get("undo", 0) + 1
                else:
                    profile = profile.fork()
                self.assert_state(profile, samples, program)
                self.assertEqual(history(profile), [samples] + earlier[::-1])
        self.assertGreater(min(refused.values()), 10, refused)
