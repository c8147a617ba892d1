"""[18] to [21] with [6], [11], [12] and [13]."""

import itertools
import random
import unittest

from stacksamples.closures import (
    full_word, includes, is_part, is_repeatable, product_text, products_of, reduced, word_in,
)
from stacksamples.errors import InvalidName, InvalidProducts, InvalidProgram, InvalidWord
from stacksamples.programs import is_program
from tests import oracle
from tests.oracle import BAD_PROGRAMS, PROGRAM, turned, unchanged

NAMES = ["main", "a", "b"]
BAD_PRODUCTS = oracle.STRANGE + [
    "a", "ab", "main", ["a"], [("a",)], [["a"], "a"], [["a"], ("a",)], ([],), (["a"],), {0: ["a"]},
    [["a", 1]], [["a", None]], [["a", True]], [["a", ["b"]]], [[[]]], [[["a"]]], [["A"]], [[""]], [["abcdefghi"]],
    [[()]], [["a", ()]], [[("b", "a")]], [[("a", "a")]], [[("a", "b", "b")]], [[("a", "c", "b")]], [[("a", 1)]],
    [[("a", None)]], [[("A",)]], [[("",)]], [[("a", ("b",))]], [[("a", ["b"])]], [[("abcdefghi",)]], [[{"a"}]],
    [[("a", "b", "c", "d", "e", "f")]], [["a"] * 13], [[]] * 13, [["a"]] * 13, [["a"], ["a"] * 13], [{}],
]
GOOD_PRODUCTS = [
    [], [[]], [["a"]], [["abcdefgh"]], [[("a",)]], [[("a", "b", "c", "d", "e")]], [["a"] * 12], [[]] * 12,
    [["a", ("a", "b"), "z"]] * 12, [["a", "b"] * 6] * 12, [["maybe", ("loop", "one")]],
]


class Errors(unittest.TestCase):
    def test_programs(self):
        for program in BAD_PROGRAMS:
            for name in ["main", None, "x"]:
                with self.subTest(program=repr(program), name=name):
                    self.assertRaises(InvalidProgram, is_part, program, name, None)
                    self.assertRaises(InvalidProgram, is_part, program, name, [])
                    self.assertRaises(InvalidProgram, full_word, program, name, None)
                    self.assertRaises(InvalidProgram, full_word, program, name, [])
                    self.assertRaises(InvalidProgram, products_of, program, name)
                    self.assertRaises(InvalidProgram, is_repeatable, program, name, None)
                    self.assertRaises(InvalidProgram, is_repeatable, program, name, "a")

    def test_names(self):
        for name in oracle.bad_names(PROGRAM):
            with self.subTest(name=repr(name)):
                for word in [[], None, ["x"]]:
                    self.assertRaises(InvalidName, is_part, PROGRAM, name, word)
                    self.assertRaises(InvalidName, full_word, PROGRAM, name, word)
                self.assertRaises(InvalidName, products_of, PROGRAM, name)
                for callee in ["a", None, "x"]:
                    self.assertRaises(InvalidName, is_repeatable, PROGRAM, name, callee)

    def test_words(self):
        for word in oracle.bad_words(PROGRAM):
            for name in PROGRAM:
                with self.subTest(word=repr(word), name=name):
                    self.assertRaises(InvalidWord, is_part, PROGRAM, name, word)
                    self.assertRaises(InvalidWord, full_word, PROGRAM, name, word)

    def test_callees(self):
        for callee in oracle.bad_names(PROGRAM) + ["main", "b", "d"]:
            with self.subTest(callee=repr(callee)):
                self.assertRaises(InvalidName, is_repeatable, PROGRAM, "a", callee)
        self.assertRaises(InvalidName, is_repeatable, PROGRAM, "c", "c")
        self.assertRaises(InvalidName, is_repeatable, PROGRAM, "main", "c")

    def test_products(self):
        for products in BAD_PRODUCTS:
            with self.subTest(products=repr(products)):
                self.assertRaises(InvalidProducts, reduced, products)
                for word in [[], None, ["A"]]:
                    self.assertRaises(InvalidProducts, word_in, products, word)
                for other in [[], None, [["A"]]]:
                    self.assertRaises(InvalidProducts, includes, products, other)
                    self.assertRaises(InvalidProducts, includes, other, products)

    def test_products_within_the_limits(self):
        for products in GOOD_PRODUCTS:
            with self.subTest(products=repr(products)):
                self.assertTrue(oracle.is_normal(unchanged(self, reduced, products), 2))
                self.assertIs(unchanged(self, word_in, products, []), products != [])
                self.assertIs(unchanged(self, includes, products, products), True)

    def test_words_of_any_names(self):
        bad = [
            None, True, 0, "", "a", (), ("a",), {}, {"a": 1}, set(), {"a"}, [""], ["A"], ["a", "b c"], ["abcdefghi"], [None],
            [1], [True], [["a"]], [("a",)], ["a", None], [b"a"],
            ("a",) * 61, ["a"] * 61 + ["A"], [""] + ["a"] * 61, ["a"] * 30 + [None] + ["a"] * 30, "a" * 61,
        ]
        for word in bad:
            for products in [[], [[]], [["a"]], [[("a",)]]]:
                with self.subTest(word=repr(word), products=products):
                    self.assertRaises(InvalidWord, word_in, products, word)


class Parts(unittest.TestCase):
    def test_example(self):
        found = [is_part(PROGRAM, "main", word) for word in [["a", "a"], ["b", "a"], ["b", "b"], []]]
        self.assertEqual(found, [True, True, False, True])
        self.assertEqual(full_word(PROGRAM, "b", ["c"]), ["d", "c"])
        self.assertIsNone(full_word(PROGRAM, "main", ["b", "b"]))

    def test_empty_bodies_and_words(self):
        self.assertEqual([is_part(PROGRAM, "c", word) for word in [[], ["c"], ["d"]]], [True, False, False])
        self.assertEqual(full_word(PROGRAM, "c", []), [])
        self.assertIsNone(full_word(PROGRAM, "c", ["c"]))
        self.assertEqual(full_word(PROGRAM, "main", []), ["a", "b", "a"])
        self.assertTrue(is_part({"main": []}, "main", []))

    def test_recursion(self):
        program = {"main": [("maybe", ["main", "a", "main"])], "a": [("loop", ["a", "main"])]}
        self.assertEqual(full_word(program, "main", ["main", "main"]), ["main", "a", "main"])
        self.assertEqual(full_word(program, "main", ["a", "a"]), None)
        self.assertEqual(full_word(program, "a", ["a", "a"])[:3], ["a", "main", "a"])

    def test_longest_words(self):
        program = {"main": ["a", ("loop", ["b", "c"]), ("one", [["b"], ["a"]])], "a": [], "b": [], "c": []}
        word = ["c"] * 60
        self.assertTrue(is_part(program, "main", word))
        found = full_word(program, "main", word)
        self.assertTrue(len(found) > 60)
        self.assertTrue(oracle.is_subword(word, found))
        self.assertEqual((found[0], found[1:-1], found[-1] in ["a", "b"]), ("a", ["b", "c"] * ((len(found) - 2) // 2), True))
        self.assertFalse(is_part(program, "main", ["a"] * 3 + ["c"] * 57))
        self.assertIsNone(full_word(program, "main", ["a"] * 3 + ["c"] * 57))
        rounds = {"main": [("loop", ["a", "b", "c", "d", "e"])], "a": [], "b": [], "c": [], "d": [], "e": []}
        for word in [["a"] * 60, ["e"] * 60, ["e", "d", "c", "b", "a"] * 12]:
            found = full_word(rounds, "main", word)
            self.assertTrue(oracle.is_subword(word, found))
            self.assertEqual(found, ["a", "b", "c", "d", "e"] * (len(found) // 5))
            self.assertTrue(is_part(rounds, "main", word))

    def test_longer_words_are_judged_like_others(self):
        program = {"main": ["a", ("loop", ["b", "c"]), ("maybe", ["a"])], "a": [], "b": [], "c": []}
        for many in [61, 100, 301]:
            for word in [["c"] * many, ["a"] + ["b"] * many, ["c"] * many + ["a"]]:
                self.assertIs(unchanged(self, is_part, program, "main", word), True)
                found = unchanged(self, full_word, program, "main", word)
                self.assertTrue(oracle.is_subword(word, found))
                self.assertEqual(found[1:1 + 2 * many], ["b", "c"] * many)
                self.assertIs(is_part(program, "main", found), True)
                self.assertEqual(full_word(program, "main", found), found)
            for word in [["c"] * many + ["a", "a"], ["a"] * many, ["a", "a"] + ["b"] * many]:
                self.assertIs(unchanged(self, is_part, program, "main", word), False)
                self.assertIsNone(unchanged(self, full_word, program, "main", word))

    def test_against_all_parts(self):
        tried = [word for many in range(5) for word in itertools.product(NAMES, repeat=many)]
        for program in oracle.random_programs(11, 60, NAMES, is_program):
            parts = oracle.words(program["main"], 4, whole=False)
            for word in tried:
                self.assertIs(is_part(program, "main", list(word)), word in parts, (program, word))
                found = full_word(program, "main", list(word))
                if word not in parts:
                    self.assertIsNone(found, (program, word))
                    continue
                self.assertTrue(oracle.is_subword(word, found), (program, word, found))
                self.assertIn(tuple(found), oracle.words(program["main"], len(found)), (program, word))

    def test_arguments_stay_and_no_order(self):
        for program in oracle.random_programs(12, 30, NAMES, is_program):
            for word in [[], ["a"], ["b", "a"], ["a", "a", "main"]]:
                for call in [is_part, full_word]:
                    found = unchanged(self, call, program, "main", word)
                    self.assertEqual(call(turned(program), "main", word), found)

    def test_program_that_changes(self):
        program = {"main": ["a"], "a": [], "b": []}
        self.assertEqual([is_part(program, "main", ["b"]), full_word(program, "main", ["b"])], [False, None])
        program["main"].append("b")
        self.assertEqual([is_part(program, "main", ["b"]), full_word(program, "main", ["b"])], [True, ["a", "b"]])
        self.assertEqual(products_of(program, "main"), [["a", "b"]])
        del program["b"]
        self.assertRaises(InvalidProgram, is_part, program, "main", [])
        self.assertRaises(InvalidProgram, products_of, program, "main")


class Products(unittest.TestCase):
    def test_example(self):
        program = {"main": ["a", ("loop", ["b", "c"]), ("one", [["b"], ["a"]])], "a": [("maybe", ["b", "c"])], "b": [], "c": []}
        found = [products_of(program, "main"), products_of(program, "a"), products_of(program, "b")]
        self.assertEqual(found, [[["a", ("b", "c"), "a"]], [["b", "c"]], [[]]])

    def products(self, body):
        program = {"main": body, "a": [], "b": [], "c": []}
        self.assertTrue(is_program(program))
        return unchanged(self, products_of, program, "main")

    def test_each_kind_of_item(self):
        self.assertEqual(self.products([]), [[]])
        self.assertEqual(self.products(["a"]), [["a"]])
        self.assertEqual(self.products(["b", "a", "b"]), [["b", "a", "b"]])
        self.assertEqual(self.products([("maybe", ["a"])]), [["a"]])
        self.assertEqual(self.products([("loop", ["c", "a", "c"])]), [[("a", "c")]])
        self.assertEqual(self.products([("one", [["b"], ["a"]])]), [["a"], ["b"]])
        self.assertEqual(self.products([("one", [["a"], []])]), [["a"]])
        self.assertEqual(self.products([("loop", [("one", [["b"], [("maybe", ["a"])]])])]), [[("a", "b")]])
        self.assertEqual(self.products([("maybe", [("one", [["b"], ["a"]])]), "c"]), [["a", "c"], ["b", "c"]])

    def test_all_choices_in_order(self):
        one = ("one", [["a"], ["b"]])
        self.assertEqual(self.products([one, one]), [["a", "a"], ["a", "b"], ["b", "a"], ["b", "b"]])
        self.assertEqual(self.products([one, ("one", [["b"], ["a"]])]), [["a", "a"], ["a", "b"], ["b", "a"], ["b", "b"]])
        self.assertEqual(self.products([("one", [["a"], ["b"], ["c"]]), ("one", [["a"], []])]), [["a", "a"], ["b", "a"], ["c", "a"]])

    def test_atoms_beside_tuples(self):
        loop = ("loop", ["a", "b"])
        self.assertEqual(self.products(["a", loop, "b"]), [[("a", "b")]])
        self.assertEqual(self.products(["c", "a", loop, "c"]), [["c", ("a", "b"), "c"]])
        self.assertEqual(self.products(["c", loop, "b", "c"]), [["c", ("a", "b"), "c"]])
        self.assertEqual(self.products([("loop", ["a"]), "a", loop]), [[("a", "b")]])
        self.assertEqual(self.products([loop, ("loop", ["a"]), "b"]), [[("a", "b")]])
        self.assertEqual(self.products([("loop", ["a"]), ("loop", ["b"])]), [[("a",), ("b",)]])
        self.assertEqual(self.products(["a", "a"]), [["a", "a"]])

    def test_products_within_others(self):
        self.assertEqual(self.products([("one", [["a"], [("loop", ["a"])], ["a", "a"], []])]), [[("a",)]])
        self.assertEqual(self.products([("one", [["a", "b"], ["a"]]), ("maybe", ["b"])]), [["a", "b", "b"]])
        self.assertEqual(self.products([("one", [["a"], ["a"]])]), [["a"]])

    def test_texts(self):
        rows = [[], ["a"], ["a", "b"], [("a",)], ["main", ("a", "bc"), "d"]]
        self.assertEqual([product_text(row) for row in rows], [".", "a", "a b", "{a}", "main {a bc} d"])

    def test_texts_give_the_order(self):
        # A blank stands ahead of letters, and letters stand ahead of a brace.
        program = {"main": [("one", [["ab"], ["a", "b"], [("loop", ["b"])], ["c"]])], "a": [], "b": [], "ab": [], "c": []}
        self.assertEqual(products_of(program, "main"), [["a", "b"], ["ab"], ["c"], [("b",)]])
        self.assertEqual(reduced([["b"], [("a",)], ["aa"], ["a", "c"], [("a", "c")]]), [["aa"], ["b"], [("a", "c")]])
        self.assertEqual(reduced([[("b",), "a"], [("b", "c")], [("a",), "b"]]), [[("a",), "b"], [("b", "c")], [("b",), "a"]])

    def test_most_names(self):
        program = {"main": [("loop", ["e", "d", "c", "b", "a"])], "a": [], "b": [], "c": [], "d": [], "e": []}
        self.assertEqual(products_of(program, "main"), [[("a", "b", "c", "d", "e")]])
        program["main"] = [("one", [["a"], ["b"]]), ("one", [["c"], ["d"], ["e"]])]
        wanted = [[left, right] for left in "ab" for right in "cde"]
        self.assertEqual(products_of(program, "main"), wanted)
        program["main"] = [("one", [[name], []]) for name in "abcde"]
        self.assertEqual(products_of(program, "main"), [list("abcde")])

    def test_same_words_as_parts(self):
        for program in oracle.random_programs(13, 120, NAMES, is_program):
            found = unchanged(self, products_of, program, "main")
            self.assertEqual(products_of(turned(program), "main"), found)
            parts = oracle.words(program["main"], 6, whole=False)
            self.assertEqual(oracle.products_words(found, 6), parts, program)
            self.assertTrue(oracle.is_normal(found), (program, found))
            self.assertEqual(reduced(found), found)


class WordsOfProducts(unittest.TestCase):
    def test_example(self):
        products = [["a", ("b", "c"), "a"]]
        found = [word_in(products, ["b", "c", "b", "a"]), word_in(products, ["a", "a", "b"]), word_in([], [])]
        found = found + [includes(products, [["a", "b"], [("c",)]]), includes([["a", "b"]], [[("a",)]])]
        wanted = [[True, False, False, True, False], [[("a", "b")]]]
        self.assertEqual([found, reduced([["a"], ["a", ("a", "b")], [("b",), ("a", "b")]])], wanted)

    def test_empty_ones(self):
        self.assertEqual([word_in([], []), word_in([[]], []), word_in([[]], ["a"])], [False, True, False])
        self.assertEqual([includes([], []), includes([], [[]]), includes([[]], []), includes([[]], [[]])], [True, False, True, True])
        self.assertEqual([includes([["a"]], [[]]), includes([[]], [["a"]]), includes([["a"]], [])], [True, False, True])
        self.assertEqual([reduced([]), reduced([[]]), reduced([[], []]), reduced([[], ["a"]])], [[], [[]], [[]], [["a"]]])

    def test_names_of_no_program(self):
        self.assertTrue(word_in([["zz", ("abcdefgh", "q")]], ["zz", "q", "abcdefgh", "q"]))
        self.assertFalse(word_in([["zz", ("abcdefgh", "q")]], ["zz", "zz"]))
        self.assertFalse(word_in([["zz"]], ["other"]))

    def test_longest_words(self):
        self.assertTrue(word_in([[("a", "b")]], ["a", "b"] * 30))
        self.assertFalse(word_in([["a"] * 12], ["a"] * 13))
        self.assertTrue(word_in([["a"] * 12], ["a"] * 12))
        self.assertTrue(word_in([["a", ("b",)] * 6], ["b"] * 59 + ["a"]))
        self.assertFalse(word_in([["a", ("b",)] * 6], ["a", "b"] * 30))

    def test_longer_words_are_judged_like_others(self):
        for many in [61, 100, 301]:
            self.assertIs(unchanged(self, word_in, [["a"], [("a", "b")]], ["a", "b"] * many), True)
            self.assertIs(word_in([["c", ("a",), "b"]], ["a"] * many + ["b"]), True)
            self.assertIs(word_in([["c", ("a",), "b"]], ["a"] * many + ["b", "b"]), False)
            self.assertIs(word_in([["c", ("a",), "b"], ["c"]], ["a"] * many + ["c"]), False)
            self.assertIs(word_in([["a"] * 12], ["a"] * many), False)
            self.assertIs(word_in([], ["a"] * many), False)

    def test_a_name_is_within_a_tuple_and_not_the_reverse(self):
        self.assertEqual([includes([[("a",)]], [["a"]]), includes([["a"]], [[("a",)]])], [True, False])
        self.assertEqual([includes([[("a",)]], [["a"] * 12]), includes([["a"] * 12], [[("a",)]])], [True, False])
        self.assertTrue(includes([[("a", "b")]], [["a", "b", "a"], [("b",), ("a",), "a"]]))
        self.assertFalse(includes([[("a",), ("b",)]], [[("a", "b")]]))
        self.assertFalse(includes([[("a", "b")]], [["a", "c"]]))

    def test_each_product_within_one(self):
        self.assertTrue(includes([["a"], ["b"]], [["b"], ["a"], []]))
        self.assertFalse(includes([["a"], ["b"]], [["b"], ["a", "b"]]))
        self.assertFalse(includes([["a"], ["b"]], [["c"], ["a"]]))

    def test_steps_of_normal_form(self):
        rows = [
            ([["a", ("a",)]], [[("a",)]]), ([[("a",), "a"]], [[("a",)]]), ([["b", "a", ("a", "b"), "b", "a"]], [[("a", "b")]]),
            ([[("a",), ("a", "b")]], [[("a", "b")]]), ([[("a", "b"), ("b",)]], [[("a", "b")]]), ([[("a",), ("a",)]], [[("a",)]]),
            ([["a", "b", ("b",), "a"]], [["a", ("b",), "a"]]), ([["a", ("b",), "a", ("a", "b")]], [[("a", "b")]]),
            ([[("a", "b"), "a", "c", "b", ("a", "b")]], [[("a", "b"), "c", ("a", "b")]]),
            ([["c", ("c",), ("b",), ("b", "c")]], [[("b", "c")]]), ([[("a", "b"), ("b", "c")]], [[("a", "b"), ("b", "c")]]),
            ([["a", "a"], ["a"], ["a", "a"]], [["a", "a"]]), ([["b"], ["a"]], [["a"], ["b"]]),
            ([["a", ("a",)], [("a",), "a"], ["b"]], [["b"], [("a",)]]), ([["a"] * 12], [["a"] * 12]),
        ]
        for products, wanted in rows:
            self.assertEqual(unchanged(self, reduced, products), wanted)

    def test_against_all_words(self):
        source = random.Random(14)
        for _ in range(150):
            products = [oracle.random_product(source, ["a", "b"], 4) for _ in range(source.randint(0, 3))]
            other = [oracle.random_product(source, ["a", "b"], 3) for _ in range(source.randint(0, 2))]
            # Four names taken away one by one are fewer than five rounds of a tuple.
            found, others = oracle.products_words(products, 9), oracle.products_words(other, 9)
            self.assertIs(unchanged(self, includes, products, other), others <= found, (products, other))
            for many in range(5):
                for word in itertools.product("ab", repeat=many):
                    self.assertIs(word_in(products, list(word)), word in found, (products, word))
            normal = unchanged(self, reduced, products)
            self.assertEqual(oracle.products_words(normal, 9), found)
            self.assertTrue(oracle.is_normal(normal, 9), (products, normal))
            self.assertTrue(includes(normal, products) and includes(products, normal))

    def test_same_words_have_the_same_normal_form(self):
        source = random.Random(15)
        seen = {}
        for _ in range(1500):
            products = [oracle.random_product(source, ["a", "b"], 3) for _ in range(source.randint(0, 3))]
            key = frozenset(oracle.products_words(products, 7))
            normal = seen.setdefault(key, reduced(products))
            self.assertEqual(reduced(products), normal)
        forms = [str(normal) for normal in seen.values()]
        self.assertEqual(len(forms), len(set(forms)))

    def test_any_order_of_products(self):
        source = random.Random(16)
        for _ in range(50):
            products = [oracle.random_product(source, ["a", "b", "c"], 4) for _ in range(4)]
            mixed = source.sample(products, 4) + [products[0]]
            self.assertEqual(reduced(mixed), reduced(products))


class Repeatable(unittest.TestCase):
    def test_example(self):
        found = [is_repeatable(PROGRAM, "a", "c"), is_repeatable(PROGRAM, "b", "c"), is_repeatable(PROGRAM, "main", "a")]
        self.assertEqual(found, [True, False, False])

    def repeatable(self, body, callee):
        return unchanged(self, is_repeatable, {"main": body, "a": [], "b": []}, "main", callee)

    def test_each_kind_of_item(self):
        self.assertFalse(self.repeatable(["a"], "a"))
        self.assertFalse(self.repeatable([("maybe", ["a"])], "a"))
        self.assertTrue(self.repeatable([("loop", ["a"])], "a"))
        self.assertTrue(self.repeatable([("loop", ["a", "b"])], "b"))
        self.assertTrue(self.repeatable(["a", ("loop", ["a"])], "a"))
        self.assertFalse(self.repeatable(["a", "b", ("loop", ["a"])], "a"))
        self.assertFalse(self.repeatable([("one", [["a"], [("loop", ["b"])]])], "a"))
        self.assertTrue(self.repeatable([("one", [["a"], [("loop", ["b"])]])], "b"))
        self.assertTrue(self.repeatable([("one", [["a"], [("loop", ["a"])]])], "a"))
        self.assertFalse(self.repeatable([("one", [["a", "b"], [("loop", ["a"])]])], "a"))

    def test_its_place_counts(self):
        self.assertFalse(self.repeatable([("loop", ["a"]), "b", "a"], "a"))
        self.assertFalse(self.repeatable([("loop", ["a"]), "b", "a"], "b"))
        self.assertTrue(self.repeatable([("loop", ["a"]), "b", ("loop", ["a"])], "a"))
        self.assertFalse(self.repeatable(["a", "b", "b"], "b"))

    def test_itself(self):
        program = {"main": [("maybe", ["main", "main"])], "a": [("loop", ["a"])]}
        self.assertEqual([is_repeatable(program, "main", "main"), is_repeatable(program, "a", "a")], [False, True])

    def test_against_all_parts(self):
        answers = {True: 0, False: 0}
        for program in oracle.random_programs(17, 150, NAMES, is_program):
            parts = oracle.words(program["main"], 7, whole=False)
            for callee in NAMES:
                if (callee,) not in parts:
                    self.assertRaises(InvalidName, is_repeatable, program, "main", callee)
                    continue
                wanted = all(
                    word[:at] + (callee,) + word[at:] in parts
                    for word in parts
                    for at in range(len(word))
                    if word[at] == callee and len(word) < 7
                )
                answers[wanted] += 1
                self.assertIs(unchanged(self, is_repeatable, program, "main", callee), wanted, (program, callee))
                self.assertIs(is_repeatable(turned(program), "main", callee), wanted)
        self.assertTrue(min(answers.values()) > 30, answers)
