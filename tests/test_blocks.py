"""[22] to [24] with [8] and [10]."""

import inspect
import random
import unittest

from stacksamples.blocks import fewest_blocks, fits, longest_fit, regions, walk_blocks
from stacksamples.closures import is_part
from stacksamples.errors import InvalidProgram, InvalidStacks
from stacksamples.programs import is_program
from tests import oracle
from tests.oracle import BAD_PROGRAMS, PROGRAM, turned, unchanged

NAMES = ["main", "a", "b"]


def walked(program, stacks):
    return list(walk_blocks(program, stacks))


CALLS = [regions, fits, longest_fit, fewest_blocks, walked]


def rows(root, text):
    """Stacks of a call, written as names of one letter with blanks between the stacks; . is an own one."""
    return [(root,) if word == "." else (root,) + tuple(word) for word in text.split()]


class Errors(unittest.TestCase):
    def test_programs(self):
        for program in BAD_PROGRAMS:
            for call in CALLS:
                for stacks in [[], None, [("main",)], [("zz",)], "main"]:
                    with self.subTest(program=repr(program), call=call):
                        self.assertRaises(InvalidProgram, call, program, stacks)

    def test_stacks(self):
        for good in [("main",), ("main", "a", "c"), ("a", "b")]:
            for stacks in oracle.bad_stack_lists(good):
                for call in CALLS:
                    with self.subTest(stacks=repr(stacks), call=call):
                        self.assertRaises(InvalidStacks, call, PROGRAM, stacks)

    def test_stacks_that_begin_with_different_functions(self):
        for stacks in [[("main",), ("a",)], [("a", "c"), ("a",), ("c",)], [("b",)] * 200 + [("a", "b")]]:
            for call in CALLS:
                self.assertRaises(InvalidStacks, call, PROGRAM, stacks)

    def test_names_of_stacks_are_functions_and_need_not_be_called(self):
        for stacks in [[("d", "main", "d")], [("c", "c", "c", "c", "c", "c", "c", "c")], [("a", "a"), ("a", "main")]]:
            self.assertEqual([fits(PROGRAM, stacks), longest_fit(PROGRAM, stacks)], [False, 0])
            self.assertEqual([fewest_blocks(PROGRAM, stacks), walked(PROGRAM, stacks)], [None, []])
            self.assertEqual(len(regions(PROGRAM, stacks)), len(stacks))

    def test_errors_of_a_walk_come_with_its_first_item_at_the_latest(self):
        with self.assertRaises(InvalidProgram):
            next(walk_blocks({}, None))
        with self.assertRaises(InvalidStacks):
            next(walk_blocks(PROGRAM, [("a",), ("b",)]))


class Regions(unittest.TestCase):
    def test_example(self):
        samples = [("main", "a", "c"), ("main", "a"), ("main", "a", "c"), ("main", "b"), ("main", "a", "c")]
        self.assertEqual(regions(PROGRAM, samples), [("a", 0, 2), ("b", 3, 3), ("a", 4, 4)])
        stacks = [("b", "c"), ("b",), ("b", "c"), ("b", "d")]
        self.assertEqual(regions(PROGRAM, stacks), [("c", 0, 0), ("c", 2, 2), ("d", 3, 3)])
        self.assertEqual(regions(PROGRAM, []), [])

    def found(self, text, program=PROGRAM):
        return unchanged(self, regions, program, rows("main", text))

    def test_own_stacks_lie_in_no_region_and_part_regions(self):
        self.assertEqual(self.found("."), [])
        self.assertEqual(self.found(". . ."), [])
        self.assertEqual(self.found(". a . ."), [("a", 1, 1)])
        self.assertEqual(self.found("a . a"), [("a", 0, 0), ("a", 2, 2)])
        self.assertEqual(self.found("a a . . b b ."), [("a", 0, 1), ("b", 4, 5)])

    def test_second_name_counts_alone(self):
        self.assertEqual(self.found("a ac ad abcd a"), [("a", 0, 4)])
        self.assertEqual(self.found("ac bc cc"), [("a", 0, 0), ("b", 1, 1), ("c", 2, 2)])
        self.assertEqual(self.found("a a b b b a"), [("a", 0, 1), ("b", 2, 4), ("a", 5, 5)])

    def test_function_in_itself(self):
        stacks = [("a", "a"), ("a", "a", "a"), ("a",), ("a", "a")]
        self.assertEqual(regions(PROGRAM, stacks), [("a", 0, 1), ("a", 3, 3)])

    def test_many(self):
        self.assertEqual(self.found("abcdabc " * 200), [("a", 0, 199)])
        self.assertEqual(self.found("a b " * 130), [("ab"[at % 2], at, at) for at in range(260)])

    def test_together_with_own_ones_they_are_the_whole_list(self):
        source = random.Random(21)
        for program in oracle.random_programs(21, 40, NAMES, is_program):
            stacks = oracle.random_stacks(source, program, source.choice(NAMES), 12)
            found = unchanged(self, regions, program, stacks)
            self.assertEqual(regions(turned(program), stacks), found)
            inside = []
            for name, first, last in found:
                self.assertLessEqual(first, last)
                self.assertEqual({stack[1] for stack in stacks[first:last + 1]}, {name})
                for beside in [first - 1, last + 1]:
                    self.assertFalse(0 <= beside < len(stacks) and stacks[beside][1:2] == (name,))
                inside += range(first, last + 1)
            self.assertEqual(inside, [at for at in range(len(stacks)) if len(stacks[at]) > 1])


class Fits(unittest.TestCase):
    def test_example(self):
        stacks = [("b", "c"), ("b", "d"), ("b",), ("b", "c")]
        found = [fits(PROGRAM, stacks[1:]), fits(PROGRAM, stacks), longest_fit(PROGRAM, stacks), fewest_blocks(PROGRAM, stacks)]
        wanted = [[True, False, 1, 2], True, 0, False, None]
        alone = [("b", "a")]
        self.assertEqual([found, fits(PROGRAM, []), fewest_blocks(PROGRAM, []), fits(PROGRAM, alone), fewest_blocks(PROGRAM, alone)], wanted)

    def check(self, program, root, text, longest, blocks):
        stacks = rows(root, text)
        self.assertEqual(unchanged(self, longest_fit, program, stacks), longest)
        self.assertIs(unchanged(self, fits, program, stacks), longest == len(stacks))
        self.assertEqual(unchanged(self, fewest_blocks, program, stacks), blocks)
        found = walked(program, stacks)
        self.assertEqual(sum(found, [])[:longest], stacks[:longest])
        self.assertEqual(walked(program, stacks), found)
        if blocks is not None:
            self.assertEqual((sum(found, []), len(found)), (stacks, blocks))

    def test_empty_list(self):
        for program in [PROGRAM, {"main": []}]:
            self.assertIs(fits(program, []), True)
            self.assertEqual([longest_fit(program, []), fewest_blocks(program, []), walked(program, [])], [0, 0, []])

    def test_own_stacks(self):
        self.check(PROGRAM, "c", ".", 1, 1)
        self.check(PROGRAM, "c", ". . . .", 4, 1)
        self.check(PROGRAM, "b", ". d . . c .", 6, 1)
        self.check(PROGRAM, "b", "d . d", 2, 2)
        self.check(PROGRAM, "b", "d d d . c c", 6, 1)
        self.check(PROGRAM, "a", "c . c . c", 5, 1)

    def test_stacks_that_alone_do_not_fit(self):
        self.check(PROGRAM, "b", "a", 0, None)
        self.check(PROGRAM, "b", "d c a", 2, None)
        self.check(PROGRAM, "b", "c d a c", 1, None)
        self.check(PROGRAM, "main", "ad", 0, None)
        self.check(PROGRAM, "main", "ac bc bd ad", 2, None)
        self.check(PROGRAM, "main", "a bd bda", 2, None)

    def test_one_stack_twice(self):
        self.check(PROGRAM, "main", "a a", 2, 1)
        self.check(PROGRAM, "main", "bc bc bc", 3, 1)
        self.check(PROGRAM, "main", "bd bc bd", 2, 2)
        once = {"main": ["a"], "a": ["b"], "b": []}
        self.check(once, "main", "ab ab", 2, 1)
        self.check(once, "main", "ab a ab", 2, 2)
        self.check(once, "main", "a ab a", 3, 1)

    def test_word_of_regions_counts_blocks(self):
        # The calls of b in the body of main are two, and each of them shows d ahead of c.
        program = {"main": ["b", "b"], "b": ["d", "c"], "c": [], "d": []}
        self.check(program, "main", "bc bd", 2, 1)
        self.check(program, "main", "bd bc bd bc", 4, 1)
        self.check(program, "main", "bc bd bc bd", 3, 2)
        self.check(program, "main", "bd . bd bc . bd", 5, 2)
        self.check(program, "main", "bc bd bc bd bc bd", 3, 2)
        self.check(program, "main", "bc bd bc bd bc bd bc bd", 3, 3)

    def test_loops_and_choices(self):
        loop = {"main": [("loop", ["a", "b"]), "c"], "a": [], "b": [], "c": []}
        self.check(loop, "main", "b a b b . b a c", 8, 1)
        self.check(loop, "main", "c a", 1, 2)
        one = {"main": [("one", [["a", "a"], ["b"], []]), ("maybe", ["c"])], "a": [], "b": [], "c": []}
        self.check(one, "main", "a . a . c", 5, 1)
        self.check(one, "main", "a . a . a", 4, 2)
        self.check(one, "main", "a b a b", 1, 4)
        self.check(one, "main", "c", 1, 1)
        self.check(one, "main", "b c c . c", 4, 2)

    def test_choices_are_kept_apart(self):
        program = {"main": [("one", [["a", "b"], ["b", "a"]]), "c"], "a": [], "b": [], "c": []}
        self.check(program, "main", "a b c", 3, 1)
        self.check(program, "main", "b a c", 3, 1)
        self.check(program, "main", "a b a", 2, 2)

    def test_recursion(self):
        program = {"main": [("maybe", ["main", "a"])], "a": [("loop", ["a"])]}
        stacks = [("main",) * many for many in [1, 8, 3, 2, 1]] + [("main", "a")]
        self.assertTrue(fits(program, stacks))
        self.assertEqual(fewest_blocks(program, stacks + [("main", "main")]), 2)
        again = [("main", "main", "main"), ("main", "main", "a"), ("main", "main", "main")]
        self.assertEqual([longest_fit(program, again), fewest_blocks(program, again)], [2, 2])
        self.assertEqual(walked(program, again), [again[:2], again[2:]])
        deep = [("a",) * many for many in [8, 1, 8, 7, 8, 2]]
        self.assertTrue(fits(program, deep * 30))

    def test_function_that_main_does_not_lead_to(self):
        program = {"main": [], "a": ["b", "b"], "b": []}
        self.check(program, "a", "b . b", 3, 1)
        self.check(program, "a", "b . b . b", 4, 2)

    def test_most_and_longest_stacks(self):
        names = ["main", "a", "b", "c", "d", "e"]
        program = {name: [("one", [["main", "a", "b", "c", "d"], []])] for name in names}
        self.assertTrue(is_program(program))
        stack = ("main", "a", "b", "c", "d", "main", "a", "b")
        self.assertTrue(fits(program, [stack] * 200))
        ahead = stack[:7] + ("a",)
        self.assertEqual(fewest_blocks(program, [stack, ahead] * 100), longest_and_blocks(program, [stack, ahead] * 100)[1])
        source = random.Random(22)
        stacks = [tuple(["main"] + [source.choice(names[:5]) for _ in range(7)]) for _ in range(200)]
        self.assertEqual(len(walked(program, stacks)), fewest_blocks(program, stacks))
        self.assertEqual(sum(walked(program, stacks), []), stacks)
        loops = {name: [("loop", ["main", "a", "b", "c", "d"])] for name in names}
        self.assertEqual([fits(loops, stacks), fewest_blocks(loops, stacks)], [True, 1])

    def test_more_than_200_stacks(self):
        self.check(PROGRAM, "b", "d . c " + ". " * 300, 303, 1)
        self.check(PROGRAM, "b", "c d " * 150, 1, 151)
        self.check(PROGRAM, "a", "c . " * 1000, 2000, 1)

    def test_is_judged_anew_after_each_change(self):
        program = {"main": ["a"], "a": [], "b": []}
        stacks = rows("main", "a b")
        self.assertEqual([fits(program, stacks), fewest_blocks(program, stacks)], [False, None])
        program["main"].append("b")
        self.assertEqual([fits(program, stacks), fewest_blocks(program, stacks)], [True, 1])
        stacks.append(("main", "a"))
        self.assertEqual([fits(program, stacks), fewest_blocks(program, stacks)], [False, 2])


def longest_and_blocks(program, stacks):
    """The longest fit and the fewest blocks from all ways to cut a list, each piece judged by fits."""
    best = [0]
    for end in range(1, len(stacks) + 1):
        ways = [best[start] + 1 for start in range(max(0, end - 20), end)
                if best[start] is not None and fits(program, stacks[start:end])]
        best.append(min(ways, default=None))
    return max(end for end in range(len(stacks) + 1) if end == 0 or best[end] == 1), best[-1]


class AgainstSearch(unittest.TestCase):
    def test_fits(self):
        source = random.Random(23)
        answers = {True: 0, False: 0}
        for program in oracle.random_programs(23, 800, NAMES, is_program):
            root = source.choice(NAMES)
            # The search goes through all that can be open at once.
            if len(oracle.items_in(program["a"] + program["b"] + program["main"])) > 9:
                continue
            stacks = oracle.random_stacks(source, program, root, source.randint(2, 9))
            wanted = oracle.can_show(program, root, stacks, 5)
            answers[wanted] += 1
            self.assertIs(unchanged(self, fits, program, stacks), wanted, (program, stacks))
            self.assertIs(fits(turned(program), stacks), wanted)
        self.assertGreater(min(answers.values()), 30, answers)

    def test_blocks(self):
        source = random.Random(24)
        seen = {}
        for program in oracle.random_programs(24, 250, NAMES, is_program):
            stacks = oracle.random_stacks(source, program, source.choice(NAMES), source.randint(1, 14), 4)
            longest, blocks = longest_and_blocks(program, stacks)
            seen[blocks] = seen.get(blocks, 0) + 1
            self.assertEqual(unchanged(self, longest_fit, program, stacks), longest, (program, stacks))
            self.assertEqual(unchanged(self, fewest_blocks, program, stacks), blocks, (program, stacks))
            found = walked(program, stacks)
            self.assertEqual(walked(turned(program), stacks), found)
            at = 0
            for block in found:
                self.assertEqual(block, stacks[at:at + longest_fit(program, stacks[at:])])
                at += len(block)
            self.assertTrue(at == len(stacks) if blocks is not None else not fits(program, stacks[at:at + 1]))
            self.assertTrue(blocks is None or len(found) == blocks)
        self.assertGreater(min(seen.get(blocks, 0) for blocks in [None, 1, 2, 3]), 10, seen)

    def test_word_of_the_regions(self):
        source = random.Random(25)
        for program in oracle.random_programs(25, 200, NAMES, is_program):
            root = source.choice(NAMES)
            stacks = oracle.random_stacks(source, program, root, source.randint(1, 12), 5)
            word = []
            for name, first, last in regions(program, stacks):
                blocks = fewest_blocks(program, [stack[1:] for stack in stacks[first:last + 1]])
                word += [name] * blocks if blocks is not None else [None]
            wanted = None not in word and is_part(program, root, word)
            self.assertIs(fits(program, stacks), wanted, (program, stacks))

    def test_leaving_stacks_out_never_makes_them_unfit(self):
        source = random.Random(26)
        for program in oracle.random_programs(26, 200, NAMES, is_program):
            stacks = oracle.random_stacks(source, program, "main", 10, 4)
            stacks = stacks[:longest_fit(program, stacks)]
            for at in range(len(stacks)):
                self.assertTrue(fits(program, stacks[:at] + stacks[at + 1:]), (program, stacks, at))


class Walk(unittest.TestCase):
    STACKS = [("b", "c"), ("b", "d"), ("b",), ("b", "c"), ("b", "a"), ("b",)]
    WANTED = [[("b", "c")], [("b", "d"), ("b",), ("b", "c")]]

    def test_example(self):
        self.assertEqual(list(walk_blocks(PROGRAM, self.STACKS)), self.WANTED)

    def test_is_a_generator(self):
        self.assertTrue(inspect.isgenerator(walk_blocks(PROGRAM, self.STACKS)))
        self.assertTrue(inspect.isgenerator(walk_blocks(PROGRAM, [])))

    def test_two_walks_at_once(self):
        first, second = walk_blocks(PROGRAM, self.STACKS), walk_blocks(PROGRAM, self.STACKS[1:])
        found = [next(first), next(second), next(first), next(second, None), next(first, None)]
        self.assertEqual(found, [self.WANTED[0], self.WANTED[1], self.WANTED[1], None, None])

    def test_walk_that_is_stopped(self):
        walk = walk_blocks(PROGRAM, self.STACKS)
        self.assertEqual(next(walk), self.WANTED[0])
        walk.close()
        self.assertEqual(list(walk_blocks(PROGRAM, self.STACKS)), self.WANTED)

    def test_yields_new_lists(self):
        stacks = list(self.STACKS)
        walk = walk_blocks(PROGRAM, stacks)
        first = next(walk)
        first.append(("b",))
        first.extend(stacks)
        self.assertEqual(next(walk), self.WANTED[1])
        self.assertEqual(stacks, self.STACKS)
        self.assertEqual(list(walk_blocks(PROGRAM, stacks)), self.WANTED)
        whole = [("b", "d"), ("b", "c")]
        found = next(walk_blocks(PROGRAM, whole))
        found.clear()
        self.assertEqual(whole, [("b", "d"), ("b", "c")])

    def test_changes_between_two_items(self):
        program = {name: list(PROGRAM[name]) for name in PROGRAM}
        stacks = list(self.STACKS)
        walk = walk_blocks(program, stacks)
        found = [next(walk)]
        stacks.clear()
        program["b"].clear()
        self.assertEqual(found + list(walk), self.WANTED)

    def test_ends_ahead_of_a_stack_that_alone_does_not_fit(self):
        for stacks in [[("b", "a")], [("b", "a"), ("b",)], [("b", "a"), ("b", "a")]]:
            self.assertEqual(walked(PROGRAM, stacks), [])
        self.assertEqual(walked(PROGRAM, [("b",), ("b", "a"), ("b", "d")]), [[("b",)]])

    def test_each_block_is_as_long_as_it_can_be(self):
        program = {"main": ["b", "b"], "b": ["d", "c"], "c": [], "d": []}
        stacks = rows("main", "bc bd . bc bd bd")
        self.assertEqual(walked(program, stacks), [stacks[:3], stacks[3:]])
        stacks = rows("main", "b b . b bd b b . b")
        self.assertEqual(walked(program, stacks), [stacks[:8], stacks[8:]])
