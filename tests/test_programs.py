"""[14] to [17] with [5] and [6]."""

import itertools
import unittest

from stacksamples.errors import InvalidName, InvalidProgram, InvalidWord
from stacksamples.programs import callees, is_program, is_start, is_word, reached, shortest_call
from tests import oracle
from tests.oracle import PROGRAM, BAD_PROGRAMS, turned, unchanged


def with_main(body, *others):
    """A program with this body of main and other functions that call nothing."""
    program = {"main": body}
    for name in others:
        program[name] = []
    return program


def nested(depth, kind="maybe"):
    """A body with this depth."""
    body = ["a"]
    for _ in range(depth - 1):
        body = [("one", [body, []])] if kind == "one" else [(kind, body)]
    return body


class IsProgram(unittest.TestCase):
    def check(self, wanted, *values):
        for value in values:
            with self.subTest(value=repr(value)[:200]):
                self.assertIs(is_program(value), wanted)

    def test_examples(self):
        values = [PROGRAM, {"main": ["a"]}, {"main": ["main"]}, {"main": [("maybe", ["main"])]}]
        self.assertEqual([is_program(value) for value in values], [True, False, False, True])

    def test_values_of_other_kinds(self):
        self.check(False, *BAD_PROGRAMS)
        self.check(False, [PROGRAM], (PROGRAM,), list(PROGRAM.items()), repr(PROGRAM))

    def test_names_of_functions(self):
        good = ["a", "z", "abcdefgh", "zzzzzzzz", "maybe", "loop", "one"]
        bad = ["", "abcdefghi", "A", "aB", "a1", "a_b", "a b", " a", "a\n", "a.", "`", "{", "~", 1, True, None, ("a",), b"a"]
        self.check(True, *[{"main": [], name: []} for name in good])
        self.check(True, *[{"main": [name], name: []} for name in good])
        self.check(False, *[{"main": [], name: []} for name in bad])
        self.check(False, *[{"main": [], "a": [], name: ["a"]} for name in bad])

    def test_number_of_functions(self):
        six = with_main([], "a", "b", "c", "d", "e")
        self.check(True, {"main": []}, six)
        self.check(False, {}, dict(six, f=[]), dict(six, f=[], g=[]))

    def test_main(self):
        self.check(False, {"a": []}, {"mains": []}, {"mai": [], "a": []}, {"Main": []}, {b"main": []}, {("main",): []})

    def test_bodies_are_lists(self):
        bad = [None, "a", (), ("a",), {}, {"a": 1}, 0, True, set(), "", ("maybe", ["a"])]
        self.check(False, *[{"main": body, "a": []} for body in bad])
        self.check(False, *[{"main": [], "a": body} for body in bad])
        self.check(False, *[with_main([(kind, body)], "a") for body in bad for kind in ["maybe", "loop"]])
        self.check(False, *[with_main([("one", [["a"], body])], "a") for body in bad])
        self.check(False, *[with_main([("one", [body, ["a"]])], "a") for body in bad])
        self.check(False, *[with_main([("one", body)], "a") for body in bad + [(["a"], []), {0: ["a"], 1: []}]])

    def test_items(self):
        bad = [
            None, 1, True, "b", "", "A", b"a", [], ["a"], ["maybe", ["a"]], (), ("a",), ("maybe",), (["a"],), {}, {"a": 1},
            ("maybe", ["a"], ["a"]), ("some", ["a"]), ("Maybe", ["a"]), ("a", ["a"]), (None, ["a"]), (["maybe"], ["a"]),
            ({}, ["a"]), (True, ["a"]), ("maybe", "a"), ("loop", "a"), ("one", "aa"), ("one", ["a", "a"]), (["a"], "maybe"),
            ("some", [["a"], ["a"]]), ("ones", [["a"], ["a"]]), (1, [["a"], ["a"]]), (None, [["a"], []]), (["one"], [["a"], []]),
            ("maybe", [["a"]]), ("loop", [["a"], ["a"]]), ("one", [["a"], None]), ("one", [["a"], ("loop", ["a"])]),
        ]
        self.check(False, *[with_main([item], "a") for item in bad])
        self.check(False, *[with_main(["a", item], "a") for item in bad])
        self.check(False, *[with_main([item, "a"], "a") for item in bad])
        self.check(False, *[with_main([("maybe", [item])], "a") for item in bad])
        self.check(False, *[with_main([("one", [["a"], ["a", item]])], "a") for item in bad])
        self.check(True, with_main(["a", "a"], "a"), with_main([("maybe", ["a"]), ("loop", ["a"])], "a"))

    def test_empty_bodies(self):
        self.check(True, {"main": []}, with_main([("one", [[], ["a"]])], "a"), with_main([("one", [["a"], []])], "a"))
        self.check(False, {"main": [("maybe", [])]}, {"main": [("loop", [])]}, {"main": [("one", [[], []])]})
        self.check(False, with_main([("one", [[], ["a"], []])], "a"), with_main(["a", ("loop", [])], "a"))
        self.check(False, with_main([("maybe", [("loop", [])])], "a"), with_main([("one", [["a"], [("maybe", [])]])], "a"))

    def test_number_of_choices(self):
        good = [[["a"], ["a"]], [["a"], []], [["a"]] * 3, [["a"]] * 4, [["a"], [], ["a"], ["a"]]]
        bad = [[], [[]], [["a"]], [["a"]] * 5, [["a"], ["a"], ["a"], ["a"], []]]
        self.check(True, *[with_main([("one", bodies)], "a") for bodies in good])
        self.check(False, *[with_main([("one", bodies)], "a") for bodies in bad])

    def test_number_of_calls(self):
        self.check(True, with_main(["a"] * 5, "a"), with_main([("one", [["a", "a"], ["a", "a"], ["a"]])], "a"))
        self.check(True, with_main(["a", ("loop", ["a", ("maybe", ["a", "a"])]), "a"], "a"))
        self.check(False, with_main(["a"] * 6, "a"), with_main([("one", [["a", "a"], ["a", "a"], ["a", "a"]])], "a"))
        self.check(False, with_main(["a", ("loop", ["a", ("maybe", ["a", "a"])]), "a", "a"], "a"))
        self.check(False, with_main([("maybe", ["a"] * 6)], "a"), {"main": [], "a": [], "b": ["a"] * 6})

    def test_number_of_items(self):
        # Five calls with one item around each of them are ten items.
        ten = [("maybe", ["a"])] * 5
        eleven = [("maybe", [("loop", ["a"])])] + [("maybe", ["a"])] * 4
        twelve = [("maybe", [("loop", ["a"])])] * 2 + [("maybe", ["a"])] * 3
        thirteen = [("maybe", [("loop", ["a"])])] * 3 + [("one", [["a"], []]), ("maybe", ["a"])]
        self.check(True, with_main(ten, "a"), with_main(eleven, "a"), with_main(twelve, "a"))
        self.check(True, {"main": [], "a": [], "b": twelve})
        self.check(False, with_main(thirteen, "a"), {"main": [], "a": [], "b": thirteen})
        fewer = [("maybe", [("loop", [("maybe", ["a"])])])] * 3
        self.check(True, with_main(fewer, "a"))
        self.check(False, with_main(fewer + ["a"], "a"), with_main(["a"] + fewer, "a"))

    def test_items_without_calls_count_too(self):
        many = ("one", [["a"], [("maybe", [("maybe", ["a"])])]])
        self.check(True, with_main([many, many, ("maybe", ["a"])], "a"))
        self.check(False, with_main([many, many, ("maybe", [("maybe", ["a"])])], "a"))

    def test_depth(self):
        for kind in ["maybe", "loop", "one"]:
            self.check(True, *[with_main(nested(depth, kind), "a") for depth in [1, 2, 3, 4]])
            self.check(False, *[with_main(nested(depth, kind), "a") for depth in [5, 6]])
            self.check(False, {"main": [], "a": [], "b": nested(5, kind)})
        self.check(True, with_main(["a", ("maybe", nested(3)), "a"], "a"))
        self.check(False, with_main(["a", ("maybe", nested(4)), "a"], "a"))
        self.check(False, with_main([("one", [["a"], nested(4)])], "a"))
        self.check(True, with_main([("one", [["a"], nested(3)])], "a"))

    def test_an_empty_body_has_a_depth_too(self):
        self.check(True, with_main([("loop", [("loop", [("one", [["a"], []])])])], "a"))
        self.check(False, with_main([("loop", [("loop", [("loop", [("one", [["a"], []])])])])], "a"))

    def test_recursion(self):
        self.check(True, {"main": [("maybe", ["main"])]}, {"main": [("loop", ["main"])]})
        self.check(True, {"main": [("one", [["main", "main"], []])]}, with_main([("one", [["main"], ["a"]])], "a"))
        self.check(True, {"main": ["a"], "a": [("one", [["b"], []])], "b": ["a"]})
        self.check(False, {"main": ["main"]}, {"main": ["a"], "a": ["main"]}, {"main": ["a"], "a": ["b"], "b": ["a"]})
        self.check(False, {"main": [("one", [["main"], ["main", "main"]])]})
        self.check(False, {"main": [], "a": ["a"]}, {"main": [("maybe", ["a"])], "a": ["a"]})
        self.check(False, {"main": [], "a": ["b"], "b": ["c"], "c": [("one", [["a"], ["b"]])]})

    def test_calls_to_return(self):
        twelve = {"main": ["a", "a", "a", "a", "b"], "a": ["c"], "b": ["c", "c"], "c": []}
        thirteen = {"main": ["a", "a", "a", "b", "b"], "a": ["c"], "b": ["c", "c"], "c": []}
        self.check(True, twelve, with_main(twelve["main"], "a", "b"))
        self.check(False, thirteen)
        self.check(True, dict(thirteen, main=[("maybe", thirteen["main"])]))
        self.check(True, dict(thirteen, main=[("loop", thirteen["main"])]))
        self.check(True, dict(thirteen, main=[("one", [["a", "a", "b", "b"], ["c"]])]))
        other = {"main": [], "a": ["b", "b", "b"], "b": ["c", "c"], "c": ["d"], "d": []}
        self.check(False, other, dict(other, b=["c", "d"]))
        self.check(True, dict(other, a=["b", "b"]), dict(other, b=["d", "d"]))

    def test_each_function_has_to_keep_each_limit(self):
        bad = [["a"] * 6, nested(5), ["x"], [("maybe", [])], ["b"], [("one", [["a"]])], ("a",), None]
        self.check(False, *[{"main": ["a"], "a": [], "b": body} for body in bad])
        self.check(False, *[{"b": body, "main": ["a"], "a": []} for body in bad])

    def test_large_and_deep_values(self):
        deep = ["a"]
        for _ in range(9):
            deep = [("maybe", deep)]
        self.check(False, with_main(deep, "a"), with_main(["a"] * 400, "a"), {str(at): [] for at in range(400)})
        wide = ["a"]
        for _ in range(10):
            wide = [("one", [wide, wide, wide, wide])]
        self.check(False, with_main(wide, "a"), {"main": [[[[[[["a"]]]]]]]})
        endless = ["a"]
        endless.append(("loop", endless))
        self.check(False, with_main(endless, "a"), {"a" * 4000: [], "main": []}, with_main(["a" * 4000], "a"))

    def test_is_judged_anew_after_each_change(self):
        program = {"main": ["a"]}
        self.assertFalse(is_program(program))
        program["a"] = []
        self.assertTrue(is_program(program))
        program["a"].append("main")
        self.assertFalse(is_program(program))

    def test_leaves_its_argument_and_minds_no_order(self):
        for program in oracle.random_programs(1, 200):
            wanted = unchanged(self, is_program, program)
            self.assertIs(is_program(turned(program)), wanted)
            returning = all(oracle.call_counts(program, 12).values())
            self.assertIs(wanted, returning and max(len(oracle.items_in(body)) for body in program.values()) <= 12)


class Errors(unittest.TestCase):
    """What is raised by the functions that take a program and a name."""

    def test_programs(self):
        for program in BAD_PROGRAMS:
            for call in [callees, shortest_call]:
                for name in ["main", "x", None, []]:
                    with self.subTest(call=call, program=repr(program)), self.assertRaises(InvalidProgram):
                        call(program, name)
            for call in [is_word, is_start]:
                for name, word in [("main", []), (None, []), ("main", None), ([], ["x"])]:
                    with self.subTest(call=call, program=repr(program)), self.assertRaises(InvalidProgram):
                        call(program, name, word)
            with self.assertRaises(InvalidProgram):
                reached(program)

    def test_names(self):
        for name in oracle.bad_names(PROGRAM):
            for call in [callees, shortest_call]:
                with self.subTest(call=call, name=repr(name)), self.assertRaises(InvalidName):
                    call(PROGRAM, name)
            for call in [is_word, is_start]:
                for word in [[], None, ["x"], ["a"] * 61]:
                    with self.subTest(call=call, name=repr(name)), self.assertRaises(InvalidName):
                        call(PROGRAM, name, word)

    def test_words(self):
        for word in oracle.bad_words(PROGRAM):
            for call in [is_word, is_start]:
                for name in PROGRAM:
                    with self.subTest(call=call, word=repr(word)), self.assertRaises(InvalidWord):
                        call(PROGRAM, name, word)


class Callees(unittest.TestCase):
    def test_example(self):
        program = dict(PROGRAM, e=["a"])
        found = [callees(program, "main"), callees(program, "b"), callees(program, "c"), reached(program)]
        self.assertEqual(found, [["a", "b"], ["c", "d"], [], ["a", "b", "c", "d", "main"]])

    def test_names_at_each_place(self):
        body = ["main", ("one", [["f"], [("loop", ["e", ("maybe", ["b"])])], []]), ("maybe", ["d"])]
        program = dict(with_main([], "d", "e", "f"), b=body)
        self.assertEqual(callees(program, "b"), ["b", "d", "e", "f", "main"])
        self.assertEqual(callees(program, "main"), [])
        self.assertEqual(callees({"main": [("loop", ["b", "a", "b", "a"])], "a": [], "b": []}, "main"), ["a", "b"])

    def test_reached(self):
        self.assertEqual(reached({"main": []}), ["main"])
        self.assertEqual(reached({"main": [("maybe", ["main"])], "a": ["main"]}), ["main"])
        chain = {"main": ["e"], "e": [("loop", ["d"])], "d": [("maybe", ["c"])], "c": [("one", [["b"], []])], "b": ["a"]}
        self.assertEqual(reached(dict(chain, a=[("maybe", ["e"])])), ["a", "b", "c", "d", "e", "main"])
        self.assertEqual(reached({"zz": [], "main": ["x"], "x": [("maybe", ["z"])], "z": [], "y": ["zz"]}), ["main", "x", "z"])

    def test_new_results_and_no_order(self):
        for program in oracle.random_programs(2, 40, ("main", "a", "b", "c"), is_program):
            found = unchanged(self, reached, program)
            self.assertEqual(reached(turned(program)), found)
            for name in program:
                found = unchanged(self, callees, program, name)
                self.assertEqual(callees(turned(program), name), found)

    def test_program_that_changes(self):
        program = {"main": ["a"], "a": [], "b": []}
        self.assertEqual([callees(program, "main"), reached(program)], [["a"], ["a", "main"]])
        program["main"].append("b")
        self.assertEqual([callees(program, "main"), reached(program)], [["a", "b"], ["a", "b", "main"]])
        program["main"].append("c")
        self.assertRaises(InvalidProgram, callees, program, "main")
        self.assertRaises(InvalidProgram, reached, program)


class ShortestCall(unittest.TestCase):
    def test_example(self):
        self.assertEqual([shortest_call(PROGRAM, name) for name in ["a", "b", "main"]], [1, 3, 6])

    def test_items(self):
        program = {"main": [], "a": ["main", "main"], "b": [("maybe", ["a"]), ("loop", ["a"]), "a"]}
        self.assertEqual([shortest_call(program, name) for name in ["main", "a", "b"]], [1, 3, 4])
        program = {"main": [("one", [["a", "a"], ["b"], ["c", "a"]])], "a": ["c"], "b": ["a", "a"], "c": []}
        self.assertEqual([shortest_call(program, name) for name in ["main", "a", "b", "c"]], [4, 2, 5, 1])

    def test_recursion(self):
        program = {"main": [("one", [["main", "main"], ["a"]])], "a": [("one", [["main"], ["b", "b"]])], "b": []}
        self.assertEqual([shortest_call(program, name) for name in ["main", "a", "b"]], [4, 3, 1])

    def test_the_most_calls(self):
        program = {"main": ["a", "a", "a", "a", "b"], "a": ["c"], "b": ["c", "c"], "c": []}
        self.assertEqual(shortest_call(program, "main"), 12)

    def test_chain_of_all_functions(self):
        program = {"a": ["b"], "b": ["c"], "c": ["d"], "d": ["e"], "e": ["main"], "main": []}
        for found in [program, turned(program)]:
            self.assertEqual([shortest_call(found, name) for name in "abcde"], [6, 5, 4, 3, 2])

    def test_against_a_search(self):
        for program in oracle.random_programs(3, 150, ("main", "a", "b", "c"), is_program):
            for name in program:
                found = unchanged(self, shortest_call, program, name)
                self.assertEqual(shortest_call(turned(program), name), found)
                self.assertEqual(found, min(oracle.call_counts(program, 12)[name]))


class Words(unittest.TestCase):
    def test_examples(self):
        program = {"main": ["a", ("one", [["b", "b"], []]), ("maybe", ["a"])], "a": [("loop", ["b", "b"])], "b": []}
        found = [is_word(program, "main", word) for word in [["a"], ["a", "a"], ["a", "b"], ["a", "b", "b", "a"], []]]
        self.assertEqual(found, [True, True, False, True, False])
        program = {"main": ["a"], "a": [("loop", ["b", "b"])], "b": []}
        found = [[is_word(program, "a", ["b"] * many), is_start(program, "a", ["b"] * many)] for many in [0, 1, 2, 3]]
        self.assertEqual(found, [[True, True], [False, True], [True, True], [False, True]])

    def check(self, program, name, whole, start):
        for word in whole + start:
            self.assertIs(is_word(program, name, list(word)), word in whole, word)
            self.assertIs(is_start(program, name, list(word)), True, word)
        for many in range(4):
            for word in itertools.product(program, repeat=many):
                if word not in whole + start and many < max(len(word) for word in whole + start):
                    self.assertIs(is_word(program, name, list(word)), False, word)
                    self.assertIs(is_start(program, name, list(word)), False, word)

    def test_each_kind_of_item(self):
        self.check(with_main([]), "main", [()], [])
        self.check(with_main(["a"], "a"), "main", [("a",)], [()])
        self.check(with_main([("maybe", ["a", "b"])], "a", "b"), "main", [(), ("a", "b")], [("a",)])
        bodies = [["a", "b"], ["b"], []]
        self.check(with_main([("one", bodies)], "a", "b"), "main", [(), ("a", "b"), ("b",)], [("a",)])
        self.check(with_main([("one", bodies[:2])], "a", "b"), "main", [("a", "b"), ("b",)], [(), ("a",)])

    def test_body_of_the_named_function_counts_alone(self):
        program = {"main": ["a"], "a": ["b"], "b": []}
        self.assertEqual([is_word(program, name, ["b"]) for name in ["main", "a", "b"]], [False, True, False])
        self.assertEqual([is_start(program, name, ["b"]) for name in ["main", "a", "b"]], [False, True, False])
        self.assertEqual([is_word(program, name, []) for name in ["main", "a", "b"]], [False, False, True])

    def test_longest_words(self):
        program = {"main": [("loop", [("maybe", ["a"]), "b"])], "a": [], "b": []}
        self.assertEqual([is_word(program, "main", ["a", "b"] * 30), is_start(program, "main", ["a", "b"] * 30)], [True, True])
        self.assertEqual([is_word(program, "main", ["b"] * 60), is_start(program, "main", ["b"] * 60)], [True, True])
        word = ["b"] * 58 + ["b", "a"]
        self.assertEqual([is_word(program, "main", word), is_start(program, "main", word)], [False, True])
        word = ["b"] * 58 + ["a", "a"]
        self.assertEqual([is_word(program, "main", word), is_start(program, "main", word)], [False, False])

    def test_longer_words_are_judged_like_others(self):
        program = {"main": [("loop", [("maybe", ["a"]), "b"])], "a": [], "b": ["a", "a"]}
        for many in [61, 62, 100, 301]:
            rows = [(["b"] * many, True, True), (["b"] * many + ["a"], False, True), (["b"] * many + ["a", "a"], False, False)]
            for word, whole, start in rows:
                self.assertIs(unchanged(self, is_word, program, "main", word), whole)
                self.assertIs(unchanged(self, is_start, program, "main", word), start)
            self.assertIs(is_word(program, "b", ["a"] * many), False)
            self.assertIs(is_start(program, "b", ["a"] * many), False)

    def test_against_all_words(self):
        names = ["main", "a", "b"]
        tried = [word for many in range(5) for word in itertools.product(names, repeat=many)]
        for program in oracle.random_programs(4, 60, names, is_program):
            name = "main"
            # Behind a start of four names a word ends within the calls of one more round of each loop.
            longer = oracle.words(program[name], 9)
            starts = {word[:many] for word in longer for many in range(5)}
            for word in tried:
                self.assertIs(is_word(program, name, list(word)), word in longer, (program, word))
                self.assertIs(is_start(program, name, list(word)), word in starts, (program, word))

    def test_arguments_stay_and_no_order(self):
        for program in oracle.random_programs(5, 20, ("main", "a"), is_program):
            for word in [[], ["a"], ["a", "main"], ["a", "a", "a"]]:
                for call in [is_word, is_start]:
                    found = unchanged(self, call, program, "main", word)
                    self.assertIs(call(turned(program), "main", word), found)
