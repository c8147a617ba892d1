"""[1], [2] and [4], and over the whole program: what two modules say of one thing agrees.

The definitions [5] to [13] are tested here at their limits, by what the functions say of them.
"""

import copy
import itertools
import pathlib
import random
import re
import unittest

from stacksamples import (
    blocks, closures, conflicts, console, errors, forms, live, nexts, programs, same, shows, sure, texts,
)
from tests import oracle
from tests.oracle import BAD_PROGRAMS, PROGRAM, turned

NAMES = ["main", "a", "b"]
SIX = ["main", "a", "b", "c", "d", "e"]
SAMPLES = [("main", "a", "c"), ("main", "a"), ("main", "a", "c"), ("main", "b"), ("main", "a", "c")]
RUN = [("call", "main"), ("sample",), ("call", "a"), ("call", "c"), ("return",), ("sample",)]
OTHER = {"main": ["a", "b"], "a": [("loop", ["c"])], "b": ["c"], "c": []}

# For each function of the interface that takes a program first, the arguments behind it.
CALLS = [
    (programs.callees, "b"), (programs.reached,), (programs.shortest_call, "main"), (programs.is_word, "b", ["d", "c"]), (programs.is_start, "b", ["d"]),
    (closures.is_part, "main", ["b", "a"]), (closures.full_word, "b", ["c"]), (closures.products_of, "main"), (closures.is_repeatable, "a", "c"),
    (blocks.regions, SAMPLES), (blocks.fits, SAMPLES), (blocks.longest_fit, SAMPLES), (blocks.fewest_blocks, SAMPLES),
    (shows.shows, SAMPLES), (shows.run_for, SAMPLES), (shows.is_run, RUN), (shows.samples_of, RUN), (shows.calls_of, RUN),
    (conflicts.conflict, SAMPLES + SAMPLES[3:]), (conflicts.is_conflict, SAMPLES + SAMPLES[3:], [3, 4, 5]), (conflicts.fewest_left_out, SAMPLES + SAMPLES[3:4]),
    (conflicts.shown_rest, SAMPLES + SAMPLES[3:4]), (same.same_call, SAMPLES, 0, 2, 1), (same.same_run, SAMPLES, 0, 2, 1), (same.other_run, SAMPLES, 0, 2, 0),
    (same.other_run, SAMPLES[:3], 0, 2, 1), (sure.surely_called, SAMPLES), (sure.run_without, SAMPLES[:3], "d"), (nexts.next_stacks, SAMPLES, 3),
    (nexts.first_unshown, SAMPLES + SAMPLES[3:]), (forms.exact_functions,), (forms.form_of,), (forms.same_lists, OTHER), (forms.parting_samples, OTHER),
    (forms.is_parting, OTHER, SAMPLES), (texts.format_program,), (programs.is_program,),
]
# The places of numbers and depths, at which True and False must not stand for 1 and 0.
NUMBERS = [
    (same.same_call, errors.InvalidIndex, [SAMPLES, None, 2, 0]), (same.same_run, errors.InvalidIndex, [SAMPLES, None, 2, 0]),
    (same.same_call, errors.InvalidIndex, [SAMPLES, 0, None, 0]), (same.other_run, errors.InvalidDepth, [SAMPLES, 0, 2, None]),
    (nexts.next_stacks, errors.InvalidDepth, [SAMPLES, None]),
]
# What a list is needed for; a tuple is not accepted there.
LISTS = [
    (shows.shows, errors.InvalidSamples, [SAMPLES]), (shows.run_for, errors.InvalidSamples, [SAMPLES]), (conflicts.conflict, errors.InvalidSamples, [SAMPLES]),
    (blocks.fits, errors.InvalidStacks, [SAMPLES]), (same.same_call, errors.InvalidSamples, [SAMPLES, 0, 2, 1]), (sure.surely_called, errors.InvalidSamples, [SAMPLES]),
    (sure.run_without, errors.InvalidSamples, [SAMPLES, "d"]), (nexts.next_stacks, errors.InvalidSamples, [SAMPLES, 2]), (nexts.first_unshown, errors.InvalidSamples, [SAMPLES]),
    (shows.samples_of, errors.InvalidRun, [RUN]), (live.Profile.of, errors.InvalidSamples, [SAMPLES]),
]


def is_ascending(value):
    """Whether all dicts in a value have their keys in ascending order."""
    if isinstance(value, dict):
        return list(value) == sorted(value) and all(map(is_ascending, value.values()))
    return all(map(is_ascending, value)) if isinstance(value, (list, tuple)) else True


class Conventions(unittest.TestCase):
    def test_arguments_stay_and_results_are_new(self):
        for call, *more in CALLS:
            with self.subTest(call=call):
                before = copy.deepcopy([PROGRAM] + more)
                found = call(PROGRAM, *more)
                self.assertEqual([PROGRAM] + more, before)
                self.assertTrue(is_ascending(found))
                kept = copy.deepcopy(found)
                oracle.spoil(found)
                self.assertEqual([PROGRAM] + more, before)
                self.assertEqual(call(PROGRAM, *more), kept)
                self.assertEqual(call(turned(PROGRAM), *copy.deepcopy(more)), kept)

    def test_spoiled_results_of_one_function_do_not_change_another(self):
        before = [call(PROGRAM, *more) for call, *more in CALLS]
        for call, *more in CALLS:
            oracle.spoil(call(PROGRAM, *more))
        self.assertEqual([call(PROGRAM, *more) for call, *more in CALLS], before)

    def test_parsed_programs_are_new(self):
        text = texts.format_program(PROGRAM)
        oracle.spoil(texts.parse_program(text))
        self.assertEqual(texts.parse_program(text), PROGRAM)
        oracle.spoil(texts.parse_samples("main main.a"))
        self.assertEqual(texts.parse_samples("main main.a"), [("main",), ("main", "a")])

    def test_a_program_that_changes_in_place_is_judged_anew(self):
        program = copy.deepcopy(PROGRAM)
        before = [call(program, *more) for call, *more in CALLS]
        program["main"].append("c")
        changed = [call(program, *more) for call, *more in CALLS]
        self.assertEqual(changed, [call(copy.deepcopy(program), *more) for call, *more in CALLS])
        self.assertNotEqual(before, changed)
        program["main"].pop()
        self.assertEqual([call(program, *more) for call, *more in CALLS], before)

    def test_true_and_false_are_no_integers(self):
        for call, error, values in NUMBERS:
            for value in [True, False]:
                with self.subTest(call=call, value=value):
                    self.assertRaises(error, call, PROGRAM, *[value if part is None else part for part in values])

    def test_a_tuple_is_no_list(self):
        for call, error, (first, *more) in LISTS:
            with self.subTest(call=call):
                call(PROGRAM, first, *more)
                self.assertRaises(error, call, PROGRAM, tuple(first), *more)
                if call != shows.samples_of:
                    self.assertRaises(error, call, PROGRAM, [list(stack) for stack in first], *more)

    def test_a_wrong_program_is_told_first(self):
        for call, *more in CALLS:
            if call == programs.is_program:
                continue
            for program in BAD_PROGRAMS:
                for values in [more, [None] * len(more)]:
                    with self.subTest(call=call, program=repr(program)):
                        self.assertRaises(errors.InvalidProgram, call, program, *values)

    def test_all_errors_are_errors_of_the_package(self):
        for call, *more in CALLS:
            for at in range(len(more)):
                for value in oracle.STRANGE:
                    values = [*more[:at], value, *more[at + 1:]]
                    try:
                        call(PROGRAM, *values)
                    except errors.StackError as error:
                        self.assertEqual(type(error).__bases__, (errors.StackError,))
                        self.assertIsInstance(error, ValueError)


class Overview(unittest.TestCase):
    def test_each_question_has_an_answer(self):
        self.assertTrue(shows.shows(PROGRAM, SAMPLES))
        self.assertEqual(shows.samples_of(PROGRAM, shows.run_for(PROGRAM, SAMPLES)), SAMPLES)
        self.assertEqual(conflicts.conflict(PROGRAM, [("main", "b"), ("main", "a"), ("main", "b")]), [0, 1, 2])
        self.assertEqual(same.same_call(PROGRAM, SAMPLES, 0, 2, 1), "surely")
        self.assertEqual(sure.surely_called(PROGRAM, SAMPLES), ["a", "b", "c", "d", "main"])
        self.assertEqual(nexts.next_stacks(PROGRAM, SAMPLES, 3), [("main",), ("main", "a"), ("main", "a", "c")])
        self.assertFalse(forms.same_lists(PROGRAM, OTHER))
        self.assertTrue(forms.is_parting(PROGRAM, OTHER, forms.parting_samples(PROGRAM, OTHER)))

    def test_each_point_has_a_test(self):
        found = set()
        for path in pathlib.Path(__file__).parent.glob("test_*.py"):
            first = path.read_text().split('"""')[1]
            for low, high in re.findall(r"\[(\d+)\](?: to \[(\d+)\])?", first):
                found.update(range(int(low), int(high or low) + 1))
        self.assertEqual(found, set(range(1, 54)))


class Guarantees(unittest.TestCase):
    def cases(self, seed, many, most=8):
        source = random.Random(seed)
        for program in oracle.random_programs(seed, many, NAMES, programs.is_program):
            yield source, program, oracle.random_stacks(source, program, "main", source.randint(0, most), 4)

    def fits_by_blocks(self, program, stacks):
        """[4], [10], [23]: whether the row of the names of the regions, each as often as it has blocks, is a part."""
        word = []
        for name, first, last in blocks.regions(program, stacks):
            many = blocks.fewest_blocks(program, [stack[1:] for stack in stacks[first:last + 1]])
            if many is None:
                return False
            word += [name] * many
        return not stacks or closures.is_part(program, stacks[0][0], word)

    def test_samples_are_shown_if_their_blocks_are_a_part(self):
        answers = {True: 0, False: 0}
        for _, program, samples in self.cases(121, 300):
            wanted = self.fits_by_blocks(program, samples)
            answers[wanted] += 1
            self.assertIs(shows.shows(program, samples), wanted, (program, samples))
        self.assertGreater(min(answers.values()), 40, answers)

    def test_leaving_samples_out_never_makes_a_list_impossible(self):
        for source, program, samples in self.cases(122, 200):
            while not shows.shows(program, samples):
                samples.pop()
            for many in range(len(samples)):
                self.assertTrue(shows.shows(program, samples[:many] + samples[many + 1:]), (program, samples))
            self.assertTrue(shows.shows(program, [sample for sample in samples if source.random() < 0.5]))

    def test_what_is_sure_and_what_is_possible(self):
        for source, program, samples in self.cases(123, 120):
            while not shows.shows(program, samples):
                samples.pop()
            called = sure.surely_called(program, samples)
            runs = [shows.run_for(program, samples)] + [sure.run_without(program, samples, name) for name in program if name not in called]
            for first, second in itertools.combinations(range(len(samples)), 2):
                depth = source.randrange(min(len(samples[first]), len(samples[second])))
                told = same.same_call(program, samples, first, second, depth)
                one, two = same.same_run(program, samples, first, second, depth), same.other_run(program, samples, first, second, depth)
                self.assertEqual((one is None, two is None), {"surely": (False, True), "possibly": (False, False), "never": (True, False)}[told])
                for run in runs + [run for run in [one, two] if run is not None]:
                    frames = oracle.frames_of(run)
                    self.assertNotEqual(told, "never" if frames[first][depth] == frames[second][depth] else "surely")
                runs += [run for run in [one, two] if run is not None][:1]
            for run in runs:
                self.assertTrue(shows.is_run(program, run))
                self.assertEqual(shows.samples_of(program, run), samples)
                if samples:
                    steps = run[:len(run) - run[::-1].index(("sample",))]
                    self.assertLessEqual(set(called), set(shows.calls_of(program, steps)))

    def test_two_programs_with_the_same_form_show_the_same(self):
        for source, program, samples in self.cases(124, 150):
            other = dict(program, b=oracle.random_body(source, NAMES, 3)[0])
            if not programs.is_program(other):
                continue
            parted = forms.parting_samples(program, other)
            self.assertIs(parted is None, forms.form_of(program) == forms.form_of(other))
            self.assertIs(forms.same_lists(program, other), parted is None)
            if parted is None:
                self.assertIs(shows.shows(program, samples), shows.shows(other, samples))
                self.assertFalse(forms.is_parting(program, other, samples))
            else:
                self.assertNotEqual(shows.shows(program, parted), shows.shows(other, parted))


class Agreement(unittest.TestCase):
    def test_forms_with_products_and_repeatable_callees(self):
        for program in oracle.random_programs(125, 150, SIX, programs.is_program):
            form = forms.form_of(program)
            self.assertEqual(list(form), programs.reached(program))
            for name, (kind, told) in form.items():
                self.assertEqual(told, closures.products_of(program, name) if kind == "exact" else programs.callees(program, name))
                self.assertEqual(kind, "exact" if name in forms.exact_functions(program) else "loose")
                if kind == "exact":
                    self.assertEqual(closures.reduced(told), told)
                    for callee in programs.callees(program, name):
                        if not closures.is_repeatable(program, name, callee):
                            self.assertEqual(form[callee][0], "exact")

    def test_profiles_with_the_functions(self):
        source = random.Random(126)
        for program in oracle.random_programs(126, 60, NAMES, programs.is_program):
            stacks = oracle.random_stacks(source, program, "main", 8, 4)
            profile = live.Profile(program)
            for number, stack in enumerate(stacks):
                before = profile.samples
                if nexts.first_unshown(program, before + [stack]) is None:
                    self.assertIsNone(conflicts.conflict(program, before + [stack]))
                    self.assertEqual(profile.add(stack), len(before) + 1)
                    self.assertEqual(live.Profile.of(program, profile.samples), profile)
                else:
                    self.assertEqual(nexts.first_unshown(program, before + [stack]), len(before))
                    with self.assertRaises(errors.NotShown) as caught:
                        profile.add(stack)
                    self.assertEqual(caught.exception.numbers, conflicts.conflict(program, before + [stack]))
                self.assertTrue(shows.shows(program, profile.samples))
                if profile.depth_now < 3:
                    last = profile.samples[-1] if len(profile) else ()
                    found = [stack[-1] for stack in nexts.next_stacks(program, profile.samples, 3) if stack[:-1] == last and len(stack) == len(last) + 1]
                    self.assertEqual(profile.next_names, found)

    def test_consoles_with_profiles(self):
        source = random.Random(127)
        for program in oracle.random_programs(127, 40, NAMES, programs.is_program):
            desk = console.Console()
            desk.execute("program " + texts.format_program(program).replace("\n", ";"))
            profile = live.Profile(program)
            for stack in oracle.random_stacks(source, program, "main", 8):
                desk.execute("sample " + texts.format_samples([stack]))
                try:
                    profile.add(stack)
                except errors.NotShown as error:
                    self.assertEqual(desk.execute("conflict"), " ".join(map(str, error.numbers)))
                    self.assertEqual([desk.execute("shown"), desk.execute("undo")], ["no", "ok"])
                self.assertEqual([desk.execute("shown"), desk.execute("conflict")], ["yes", "none"])
                self.assertEqual(desk.execute("next 2"), texts.format_samples(nexts.next_stacks(program, profile.samples, 2)))
                self.assertEqual(desk.execute("sure").split(), sure.surely_called(program, profile.samples) or ["none"])

    def test_texts_with_programs(self):
        for program in oracle.random_programs(128, 150, SIX, programs.is_program):
            again = texts.parse_program(texts.format_program(program))
            self.assertEqual(again, program)
            self.assertTrue(programs.is_program(again))
            self.assertTrue(forms.same_lists(program, again))

    def test_what_parts_programs_can_be_passed_on(self):
        around = [("loop", ["a", "b"])]
        program = {"main": around + ["c"] + around, "a": [], "b": [], "c": around + ["d"] + around, "d": around + ["e"] + around, "e": ["a", "b"]}
        other = dict(program, e=["b", "a"])
        samples = forms.parting_samples(program, other)
        shower, loser = (program, other) if shows.shows(program, samples) else (other, program)
        self.assertEqual(shows.samples_of(shower, shows.run_for(shower, samples)), samples)
        self.assertEqual(conflicts.conflict(loser, samples)[-1], nexts.first_unshown(loser, samples))
        padded = [("main",)] * 200 + samples
        self.assertTrue(forms.is_parting(program, other, padded))
        self.assertEqual(same.same_call(shower, padded, 0, len(padded) - 1, 0), "surely")
        self.assertIn("main", sure.surely_called(shower, padded))
        self.assertEqual(len(live.Profile.of(shower, padded)), len(padded))
        self.assertRaises(errors.InvalidSamples, texts.format_samples, padded)


class Limits(unittest.TestCase):
    """Six functions with five calls in each body, 200 stacks of eight names."""

    def test_all_at_once(self):
        bodies = [
            [("loop", SIX[:5])], [("one", [SIX[:5], []])], [("loop", [("one", [[name] for name in SIX[:4]])])],
            [("one", [["main"], ["a"], []]), ("one", [["b"], ["c"], []]), ("maybe", ["d"])], [("maybe", [name]) for name in SIX[:5]],
        ]
        source = random.Random(129)
        for body in bodies:
            program = {name: body for name in SIX}
            self.assertTrue(programs.is_program(program))
            stacks = [tuple(["main"] + [source.choice(SIX[:4]) for _ in range(7)]) for _ in range(200)]
            for samples in [stacks, stacks[:1] * 200, sorted(stacks), (stacks[:1] + [stacks[0][:4]]) * 100]:
                numbers = conflicts.conflict(program, samples)
                if numbers is not None:
                    self.assertTrue(conflicts.is_conflict(program, samples, numbers))
                    samples = samples[:nexts.first_unshown(program, samples)]
                self.assertEqual(shows.samples_of(program, shows.run_for(program, samples)), samples)
                called = sure.surely_called(program, samples)
                self.assertLessEqual({name for stack in samples for name in stack}, set(called))
                self.assertIn(("main",), nexts.next_stacks(program, samples, 3))
                if len(samples) > 1:
                    for depth in range(min(len(samples[0]), len(samples[-1]))):
                        told = same.same_call(program, samples, 0, len(samples) - 1, depth)
                        self.assertIs(same.other_run(program, samples, 0, len(samples) - 1, depth) is None, told == "surely")
                profile = live.Profile.of(program, samples)
                self.assertEqual([profile.drop(0), profile.undo(), profile.samples], [samples[0], None, samples])
            self.assertTrue(forms.same_lists(program, turned(program)))
