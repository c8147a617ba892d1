"""[40] to [43] with [13]."""

import copy
import itertools
import random
import unittest

from stacksamples.closures import is_repeatable, products_of
from stacksamples.errors import InvalidProgram
from stacksamples.forms import exact_functions, form_of, is_parting, parting_samples, same_lists
from stacksamples.programs import callees, is_program, reached
from stacksamples.shows import run_for, samples_of, shows
from tests import oracle
from tests.oracle import BAD_PROGRAMS, PROGRAM, turned, unchanged

NAMES = ["main", "a", "b"]
SIX = ["main", "a", "b", "c", "d", "e"]
AGAIN = {"main": [("loop", ["f"])], "f": ["g", "g"], "g": []}
TWICE = {"main": ["f", "f"], "f": ["g", "g"], "g": []}
ONCE = {"main": ["f", "f"], "f": ["g"], "g": []}
MORE = {"main": ["f", ("maybe", ["f"])], "f": ["g"], "g": [], "h": ["g", "g"]}


def samples_from(text):
    return [("main",) if word == "." else ("main",) + tuple(word) for word in text.split()]


def exact_by_rounds(program):
    """The exact functions, as [13] says it."""
    found = {"main"}
    while True:
        more = {name for caller in found for name in callees(program, caller) if not is_repeatable(program, caller, name)}
        if more <= found:
            return sorted(found)
        found |= more


def shown_by(program, samples):
    """Whether a program shows samples; not if a name is none of its functions."""
    return all(name in program for stack in samples for name in stack) and shows(program, samples)


class Errors(unittest.TestCase):
    def test_one_program(self):
        for program in BAD_PROGRAMS:
            for call in [exact_functions, form_of]:
                with self.subTest(program=repr(program), call=call):
                    self.assertRaises(InvalidProgram, call, program)

    def test_two_programs(self):
        for program in BAD_PROGRAMS:
            for call, more in [(same_lists, []), (parting_samples, []), (is_parting, [[]]), (is_parting, [None])]:
                with self.subTest(program=repr(program), call=call):
                    self.assertRaises(InvalidProgram, call, program, PROGRAM, *more)
                    self.assertRaises(InvalidProgram, call, PROGRAM, program, *more)
                    self.assertRaises(InvalidProgram, call, program, program, *more)


class Forms(unittest.TestCase):
    def check(self, program):
        exact = unchanged(self, exact_functions, program)
        self.assertEqual(exact, exact_by_rounds(program))
        form = unchanged(self, form_of, program)
        self.assertEqual(list(form), reached(program))
        for name, told in form.items():
            self.assertIs(type(told), tuple)
            wanted = ("exact", products_of(program, name)) if name in exact else ("loose", callees(program, name))
            self.assertEqual(told, wanted)
        self.assertTrue(set(exact) <= set(form))
        other = form_of(turned(program))
        self.assertEqual((other, list(other), exact_functions(turned(program))), (form, list(form), exact))
        return form

    def test_example(self):
        found = [exact_functions(AGAIN), exact_functions(TWICE), form_of(AGAIN), form_of(TWICE)["f"]]
        wanted = {"f": ("loose", ["g"]), "g": ("loose", []), "main": ("exact", [[("f",)]])}
        self.assertEqual(found, [["main"], ["f", "g", "main"], wanted, ("exact", [["g", "g"]])])

    def test_main_is_exact(self):
        self.assertEqual(self.check({"main": []}), {"main": ("exact", [[]])})
        self.assertEqual(self.check({"main": [("loop", ["main"])]}), {"main": ("exact", [[("main",)]])})
        self.assertEqual(self.check({"main": [("maybe", ["main"])]}), {"main": ("exact", [["main"]])})
        self.assertEqual(self.check({"main": [("loop", ["a"])], "a": [("maybe", ["main"])]})["main"], ("exact", [[("a",)]]))

    def test_functions_that_are_not_reached(self):
        form = self.check(MORE)
        self.assertEqual(form, {"f": ("exact", [["g"]]), "g": ("exact", [[]]), "main": ("exact", [["f", "f"]])})
        self.assertEqual(list(self.check({"z": ["main"], "y": ["z"], "main": ["a"], "a": []})), ["a", "main"])

    def test_a_function_can_be_exact_by_one_caller_alone(self):
        program = {"main": [("loop", ["a"]), "b"], "a": ["c"], "b": ["c", ("maybe", ["a"])], "c": ["d"], "d": []}
        self.assertEqual(exact_functions(program), ["a", "b", "c", "d", "main"])
        program["b"] = [("loop", ["c"]), ("maybe", ["a"])]
        self.assertEqual(exact_functions(program), ["a", "b", "c", "d", "main"])
        program["b"] = [("loop", ["c"]), ("loop", ["a"])]
        self.assertEqual(exact_functions(program), ["b", "main"])
        self.assertEqual(self.check(program)["c"], ("loose", ["d"]))

    def test_a_loose_caller_does_not_count(self):
        program = {"main": [("loop", ["a"])], "a": ["b", "c"], "b": ["c"], "c": []}
        self.assertEqual(self.check(program), {"a": ("loose", ["b", "c"]), "b": ("loose", ["c"]), "c": ("loose", []), "main": ("exact", [[("a",)]])})

    def test_one_name_beside_a_loop(self):
        # Where a name stands beside a tuple that contains it, it is repeatable.
        program = {"main": ["a", ("loop", ["a", "b"])], "a": ["c"], "b": ["c"], "c": []}
        self.assertEqual(self.check(program)["main"], ("exact", [[("a", "b")]]))
        self.assertEqual(exact_functions(program), ["main"])
        program = {"main": ["a", "b", ("loop", ["a"])], "a": ["c"], "b": [], "c": []}
        self.assertEqual(exact_functions(program), ["a", "b", "c", "main"])

    def test_at_random(self):
        kinds = {}
        for program in oracle.random_programs(91, 200, NAMES, is_program) + oracle.random_programs(92, 120, SIX, is_program):
            for kind, _ in self.check(program).values():
                kinds[kind] = kinds.get(kind, 0) + 1
        self.assertGreater(min(kinds.values()), 40, kinds)

    def test_is_judged_anew_after_each_change(self):
        program = {"main": ["a"], "a": ["b"], "b": []}
        self.assertEqual(exact_functions(program), ["a", "b", "main"])
        program["main"][0] = ("loop", ["a"])
        self.assertEqual(exact_functions(program), ["main"])
        self.assertEqual(form_of(program)["b"], ("loose", []))
        program["main"].append("b")
        self.assertEqual(form_of(program)["b"], ("exact", [[]]))


class SameLists(unittest.TestCase):
    def check(self, program, other):
        """Whether both programs show the same samples; if not, samples are found that only one of them shows."""
        found = unchanged(self, same_lists, program, other)
        self.assertIs(found, form_of(program) == form_of(other))
        self.assertIs(same_lists(other, program), found)
        samples = unchanged(self, parting_samples, program, other)
        self.assertEqual(parting_samples(turned(program), turned(other)), samples)
        self.assertIs(samples is None, found)
        if not found:
            self.assertIs(type(samples), list)
            self.assertTrue(all(type(stack) is tuple and 1 <= len(stack) <= 8 and stack[0] == "main" for stack in samples))
            self.assertNotEqual(shown_by(program, samples), shown_by(other, samples), (program, other, samples))
            self.assertIs(is_parting(program, other, samples), True)
            self.assertIs(is_parting(other, program, samples), True)
            self.assertIs(is_parting(program, program, samples), False)
            self.assertTrue(is_parting(program, other, parting_samples(other, program)))
            shower = program if shown_by(program, samples) else other
            self.assertEqual(samples_of(shower, run_for(shower, samples)), samples)
        return found

    def test_examples(self):
        loop = {"main": [("loop", ["f"])], "f": ["g"], "g": []}
        self.assertEqual([self.check(AGAIN, loop), self.check(TWICE, ONCE), self.check(ONCE, MORE)], [True, False, True])
        inner = [("main", "f", "g"), ("main", "f"), ("main", "f", "g")]
        found = [is_parting(TWICE, ONCE, inner), is_parting(TWICE, ONCE, inner + [("main",)] + inner), is_parting(TWICE, ONCE, None)]
        self.assertEqual(found, [False, True, False])
        self.assertEqual([is_parting(TWICE, ONCE, parting_samples(TWICE, ONCE)), parting_samples(TWICE, TWICE)], [True, None])

    def test_programs_written_otherwise(self):
        same = [
            (["a", "b"], [("maybe", ["a"]), ("maybe", ["b"])]), (["a", ("loop", ["a"])], [("loop", ["a"])]), (["a", "a"], ["a", ("maybe", ["a"])]),
            ([("loop", ["a", "b"])], [("loop", [("one", [["b"], ["a"]])])]), ([("one", [["a"], ["a", "b"]])], ["a", "b"]), ([("loop", ["a"]), ("loop", ["a"])], [("loop", ["a"])]),
            ([("one", [["a"], ["b"]])], [("one", [["b"], ["a"], []])]), ([("loop", ["a", "a", "b"])], [("loop", ["b", "a"])]),
            (["a", ("maybe", [("loop", ["b"])])], [("maybe", ["a", "b"]), ("loop", ["b"])]),
        ]
        for body, other in same:
            self.assertTrue(self.check({"main": body, "a": [], "b": []}, {"main": other, "a": [], "b": [], "c": ["a"]}), (body, other))

    def test_programs_that_differ(self):
        other = [
            (["a", "b"], ["b", "a"]), (["a"], ["a", "a"]), (["a"], []), ([("loop", ["a"])], ["a"] * 5), ([("loop", ["a", "b"])], [("loop", ["a"]), ("loop", ["b"])]),
            (["a", "b"], [("one", [["a"], ["b"]])]), ([("loop", ["a"]), "b"], [("loop", ["a"]), "b", "a"]), (["a", ("loop", ["b"])], ["a", "b"]),
            ([("loop", ["a", "b"])], [("loop", ["a"]), ("loop", ["b"]), ("loop", ["a"])]), ([("one", [["a", "b"], ["b", "a"]])], ["a", "b", "a"]),
        ]
        for body, rest in other:
            self.assertFalse(self.check({"main": body, "a": [], "b": []}, {"main": rest, "a": [], "b": []}), (body, rest))

    def test_names_that_are_no_functions(self):
        program, other = {"main": ["a"], "a": []}, {"main": ["b"], "b": []}
        self.assertFalse(self.check(program, other))
        self.assertFalse(self.check({"main": []}, program))
        self.assertTrue(self.check({"main": []}, {"main": [], "zz": ["main"]}))

    def test_what_is_not_reached_does_not_count(self):
        self.assertTrue(self.check({"main": ["a"], "a": [], "b": ["a"]}, {"main": ["a"], "a": [], "b": []}))
        self.assertTrue(self.check({"main": [], "a": ["main"]}, {"main": []}))

    def test_loose_functions(self):
        loop = [("loop", ["a"])]
        self.assertTrue(self.check({"main": loop, "a": ["b", "c"], "b": [], "c": []}, {"main": loop, "a": [("one", [["c"], ["b"]])], "b": [], "c": []}))
        self.assertFalse(self.check({"main": loop, "a": ["b", "c"], "b": [], "c": []}, {"main": loop, "a": ["b"], "b": [], "c": []}))
        self.assertFalse(self.check({"main": loop, "a": ["b"], "b": ["c"], "c": []}, {"main": loop, "a": ["b"], "b": [], "c": []}))
        # Here a is exact in one of them only.
        self.assertFalse(self.check({"main": loop, "a": ["b", "c"], "b": [], "c": []}, {"main": ["a"], "a": ["b", "c"], "b": [], "c": []}))

    def test_recursion(self):
        program = {"main": ["a"], "a": [("maybe", ["a"]), ("maybe", ["b"])], "b": [("maybe", ["a", "main"])]}
        self.assertTrue(self.check(program, {"main": [("maybe", ["a"])], "a": [("one", [["a", "b"], []])], "b": program["b"]}))
        for name, body in [("a", [("maybe", ["a"])]), ("b", [("maybe", ["main", "a"])]), ("b", [("loop", ["a", "main"])]), ("main", ["a", "a"])]:
            self.assertFalse(self.check(program, {**program, name: body}))
        self.assertTrue(self.check({"main": [("maybe", ["main"])]}, {"main": [("one", [["main"], []])]}))
        self.assertFalse(self.check({"main": [("maybe", ["main"])]}, {"main": [("loop", ["main"])]}))

    def test_far_from_main(self):
        chain = {"main": ["a"], "a": ["b", ("loop", ["c"])], "b": ["c", "c"], "c": ["d"], "d": ["e", "e"], "e": [("maybe", ["main"])]}
        for name, body in [("e", []), ("e", [("loop", ["main"])]), ("d", ["e"]), ("d", [("loop", ["e"])]), ("b", ["c"]), ("a", [("loop", ["c"]), "b"]), ("c", [("maybe", ["d"]), "d"])]:
            other = dict(chain)
            other[name] = body
            self.assertTrue(is_program(other), other)
            self.assertFalse(self.check(chain, other), (name, body))

    def test_between_loops(self):
        # What stands around a call has to tell that it is one.
        program = {
            "main": [("loop", ["a", "b"]), "c", ("loop", ["a", "b"])], "a": [], "b": [], "c": [("loop", ["d"]), "e", ("loop", ["d"])], "d": [],
            "e": ["a", "a"],
        }
        for body in [["a", "a", "a"], ["a"], [("loop", ["a"])], ["a", "b"], [("one", [["a", "a"], ["b"]])], ["a", "a", ("loop", ["b"])]]:
            other = dict(program)
            other["e"] = body
            self.assertFalse(self.check(program, other), body)
        other = dict(program)
        other["e"] = ["a", ("maybe", ["a"])]
        self.assertTrue(self.check(program, other))

    def test_against_short_lists(self):
        source = random.Random(93)
        answers = {True: 0, False: 0}
        for program in oracle.random_programs(93, 100, NAMES, is_program):
            other = dict(program)
            name = source.choice(NAMES)
            other[name] = oracle.random_body(source, NAMES, 4)[0]
            if not is_program(other):
                continue
            found = self.check(program, other)
            answers[found] += 1
            stacks = [stack for many in range(3) for stack in itertools.product(NAMES, repeat=many)]
            lists = [[("main",) + stack for stack in row] for row in itertools.product(stacks[:8], repeat=2)]
            parted = [row for row in lists if shows(program, row) != shows(other, row)]
            self.assertFalse(found and parted)
            for row in parted:
                self.assertTrue(is_parting(program, other, row))
        self.assertGreater(min(answers.values()), 15, answers)

    def test_programs_with_the_same_form_at_random(self):
        source = random.Random(94)
        for program in oracle.random_programs(94, 60, NAMES + ["c"], is_program):
            other = copy.deepcopy(program)
            form = form_of(program)
            for name, (kind, told) in form.items():
                if kind == "loose":
                    other[name] = [("loop", told)] if told else []
            self.assertIs(is_program(other), True)
            if form_of(other) == form:
                self.assertTrue(self.check(program, other))
            for _ in range(10):
                stacks = oracle.random_stacks(source, program, "main", 6, 4)
                self.assertIs(is_parting(program, other, stacks), False)

    def test_with_six_functions_at_random(self):
        source = random.Random(95)
        longest = []
        for program in oracle.random_programs(95, 300, SIX, is_program):
            other = dict(program)
            for name in source.sample(reached(program), 1):
                body = list(other[name])
                source.shuffle(body)
                other[name] = source.choice([body, body + body[:1], [("loop", body)] if body else []])
            if is_program(other) and not self.check(program, other):
                longest.append(len(parting_samples(program, other)))
        self.assertGreater(len(longest), 20)
        self.assertGreater(max(longest), 15)

    def test_most_calls(self):
        full = {name: [("loop", SIX[:5])] for name in SIX}
        tight = {name: [("one", [SIX[:5], []])] for name in SIX}
        mixed = {name: [("loop", SIX[:2]), ("one", [SIX[2:4], []]), ("loop", ["d"])] for name in SIX}
        for program, other in itertools.combinations([full, tight, mixed], 2):
            self.assertFalse(self.check(program, other))
        for program in [full, tight, mixed]:
            self.assertTrue(self.check(program, turned(program)))

    def test_is_judged_anew_after_each_change(self):
        program, other = {"main": ["a"], "a": []}, {"main": [("maybe", ["a"])], "a": []}
        self.assertTrue(same_lists(program, other))
        other["main"].append("a")
        self.assertFalse(same_lists(program, other))
        self.assertTrue(is_parting(program, other, samples_from("a . a")))
        program["main"].append("a")
        self.assertIsNone(parting_samples(program, other))
        self.assertFalse(is_parting(program, other, samples_from("a . a")))


class IsParting(unittest.TestCase):
    def test_values_of_other_kinds(self):
        program, other = {"main": ["a"], "a": []}, {"main": ["b"], "b": []}
        for value in oracle.bad_stack_lists(("main", "a")):
            wrong = value if isinstance(value, list) else None
            if wrong is not None and all(type(stack) is tuple and stack[:1] == ("main",) and len(stack) <= 8 and all(
                    isinstance(name, str) and name.isalpha() and name.islower() for name in stack) for stack in wrong):
                continue
            with self.subTest(value=repr(value)):
                self.assertIs(is_parting(program, other, value), False)
        for value in [[("a",)], [("b",)], [("main", "a"), ("b",)], [("main", "a"), ("main", "abcdefghi")], [("main", "a"), ("main", "A")], [("main", "a")] + [["main"]]]:
            self.assertIs(is_parting(program, other, value), False)
        itself = [("main", "a")]
        itself.append(itself)
        self.assertIs(is_parting(program, other, itself), False)

    def test_any_names(self):
        program, other = {"main": ["a"], "a": []}, {"main": [("loop", ["b"])], "b": []}
        wanted = {"a": True, "b": True, "b a": False, "a b": False, ".": False, "": False, "z": False, "b z": False, "a a": True, "b . b": True, "a . a": False}
        for text, found in wanted.items():
            self.assertIs(unchanged(self, is_parting, program, other, samples_from(text)), found, text)
        self.assertIs(is_parting(program, other, [("main", "a"), ("main", "abcdefgh")]), False)
        self.assertIs(is_parting(program, other, [("main",) + ("zz",) * 7]), False)

    def test_any_length(self):
        program, other = {"main": ["a"], "a": []}, {"main": ["a", "a"], "a": []}
        for many in [1, 200, 201, 1000]:
            self.assertIs(is_parting(program, other, [("main", "a")] * many), False)
            self.assertIs(is_parting(program, other, [("main", "a")] * many + samples_from(". a")), True)
            self.assertIs(is_parting(program, other, [("main", "a")] * many + samples_from(". a . a")), False)
