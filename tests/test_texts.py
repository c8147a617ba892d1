"""[48] to [50]."""

import itertools
import random
import unittest

from stacksamples.errors import InvalidProgram, InvalidSamples, InvalidText
from stacksamples.forms import parting_samples
from stacksamples.programs import is_program
from stacksamples.texts import format_program, format_samples, parse_program, parse_samples
from tests import oracle
from tests.oracle import BAD_PROGRAMS, PROGRAM, STRANGE, turned, unchanged

SIX = ["main", "a", "b", "c", "d", "e"]
NO_STRINGS = [value for value in STRANGE if not isinstance(value, str)] + [[], ["a: ."], [""], ["main"], b"main: .", b"", 0.0]


def where(call, text):
    """The fields of the InvalidText that a call raises, None if it raises none."""
    try:
        call(text)
    except InvalidText as error:
        return error.line, error.word
    return None


def item_text(item):
    if isinstance(item, str):
        return item
    kind, inner = item
    if kind == "one":
        return "( " + " | ".join(body_text(body) for body in inner) + " )"
    sign = {"maybe": "?", "loop": "*"}[kind]
    plain = len(inner) == 1 and isinstance(inner[0], str)
    return inner[0] + sign if plain else f"( {body_text(inner)} ){sign}"


def body_text(body):
    return " ".join(item_text(item) for item in body) or "."


def level_of(body):
    return 1 + max([level_of(inner) for item in body if isinstance(item, tuple) for inner in oracle.inner_bodies(item)], default=0)


def is_body_within_limits(body):
    items = oracle.items_in(body)
    calls = [item for item in items if isinstance(item, str)]
    return len(calls) <= 5 and len(items) <= 12 and level_of(body) <= 4 and all(map(is_item, items))


def is_item(item):
    if isinstance(item, str):
        return True
    kind, inner = item
    return 2 <= len(inner) <= 4 and inner.count([]) <= 1 if kind == "one" else inner != []


def body_of(words):
    """The body that these words are the text of, None if there is none: a reading from left to right, without limits."""
    found, rest = read_body(words)
    return found if found is not None and not rest and body_text(found) == " ".join(words) and is_body_within_limits(found) else None


def read_body(words):
    if words[:1] == ["."]:
        return [], words[1:]
    body = []
    while words and words[0] not in ("|", ")", ")?", ")*"):
        word, words = words[0], words[1:]
        if word == "(":
            bodies = []
            while True:
                inner, words = read_body(words)
                if inner is None or not words:
                    return None, words
                bodies.append(inner)
                end, words = words[0], words[1:]
                if end != "|":
                    break
            if end == ")":
                body.append(("one", bodies))
            elif end in (")?", ")*") and len(bodies) == 1:
                body.append(({")?": "maybe", ")*": "loop"}[end], bodies[0]))
            else:
                return None, words
        elif is_name(word):
            body.append(word)
        elif word[-1:] in ("?", "*") and is_name(word[:-1]):
            body.append(({"?": "maybe", "*": "loop"}[word[-1]], [word[:-1]]))
        else:
            return None, words
    return (body or None), words


def is_name(word):
    return 1 <= len(word) <= 8 and set(word) <= set("abcdefghijklmnopqrstuvwxyz")


INNER = [[], ["a"], ["."], ["|", "a"], ["|", "."], ["a", "|", "."], [".", "|", "a"]]
CLOSINGS = [[")"], [")?"], ["|", ".", ")"]]


def can_go_on(words):
    """Whether some body begins with these words: all short ways to go on are tried."""
    opened = words.count("(") - sum(word in (")", ")?", ")*") for word in words)
    if not 0 <= opened <= 3:
        return False
    ends = [sum(row, []) for row in itertools.product(*[CLOSINGS] * opened)]
    return any(body_of(words + inner + end) is not None for inner in INNER for end in ends)


def first_wrong(words):
    """The number of the first word of a body that is wrong, None if all are right."""
    for many in range(1, len(words) + 1):
        if not can_go_on(words[:many]):
            return many - 1
    return None if body_of(words) is not None else len(words)


class FormatProgram(unittest.TestCase):
    def test_example(self):
        body = ["a", ("loop", ["a"]), ("maybe", ["a", "b"]), ("one", [["b"], []])]
        found = format_program({"main": body, "a": [], "b": [("loop", [("maybe", ["a"])])]})
        self.assertEqual(found, "a: .\nb: ( a? )*\nmain: a a* ( a b )? ( b | . )")

    def test_errors(self):
        for program in BAD_PROGRAMS:
            self.assertRaises(InvalidProgram, format_program, program)

    def test_ordinary(self):
        self.assertEqual(format_program({"main": []}), "main: .")
        self.assertEqual(format_program(PROGRAM), "a: c*\nb: d c\nc: .\nd: .\nmain: a b a")
        body = [("maybe", [("maybe", ["main"])]), ("loop", [("one", [[], ["main", ("loop", ["main"])]])])]
        self.assertEqual(format_program({"main": body}), "main: ( main? )? ( ( . | main main* ) )*")
        body = [("one", [["z"], [("maybe", ["z"])], [("one", [["z"], ["z"]])], []])]
        self.assertEqual(format_program({"z": [], "main": body}), "main: ( z | z? | ( z | z ) | . )\nz: .")

    def test_does_not_depend_on_the_order_of_the_dict(self):
        for program in oracle.random_programs(81, 60, SIX, is_program):
            found = unchanged(self, format_program, program)
            self.assertEqual(found, format_program(turned(program)))
            self.assertEqual(found, "\n".join(f"{name}: {body_text(program[name])}" for name in sorted(program)))


class ParseProgram(unittest.TestCase):
    def test_examples(self):
        self.assertEqual(parse_program("a: .\nmain: ( ( a | a a ) )*"), {"a": [], "main": [("loop", [("one", [["a"], ["a", "a"]])])]})
        self.assertEqual(where(parse_program, "a: .\nmain: a ( a )?"), (1, 4))

    def test_reads_what_is_written(self):
        for program in oracle.random_programs(82, 150, SIX, is_program) + [PROGRAM, {"main": []}]:
            found = unchanged(self, parse_program, format_program(program))
            self.assertEqual(found, program)
            self.assertTrue(is_program(found))
            self.assertEqual(list(found), sorted(program))

    def test_values_that_are_no_strings(self):
        for value in NO_STRINGS:
            with self.subTest(value=repr(value)):
                self.assertEqual(where(parse_program, value), (None, None))

    def test_names_and_colons(self):
        for line in ["", " ", ":", ".", "main", "main :", "main :.", " main: .", "Main: .", "main.: .", "mainmainm: .", "ma1n: .", "main:: .", "main:.", ": .", "a*: .", "(: )"]:
            self.assertEqual(where(parse_program, line), (0, 0), line)
            self.assertEqual(where(parse_program, "a: .\n" + line), (1, 0), line)

    def test_empty_words(self):
        wanted = {
            "": (0, 0), "main: ": (0, 1), "main:  .": (0, 1), "main: . ": (0, 2), "main: main?  main?": (0, 2), "main: ( main?  )?": (0, 3),
            "main: .\n": (1, 0), "\nmain: .": (0, 0), "main: .\n\n": (1, 0), "a: .\n main: .": (1, 0), "a: . \nmain: ": (0, 2),
        }
        for text, fields in wanted.items():
            self.assertEqual(where(parse_program, text), fields, text)

    def test_words_that_are_missing(self):
        wanted = {
            "main:": 1, "main: (": 2, "main: ( a": 3, "main: ( a b": 4, "main: ( a |": 4, "main: ( a | b": 5, "main: ( ( a b )?": 6,
            "main: ( .": 3, "main: ( . |": 4, "main: a (": 3,
        }
        for line, word in wanted.items():
            self.assertEqual(where(parse_program, line), (0, word), line)
            self.assertEqual(where(parse_program, "a: .\n" + line + "\nb: ("), (1, word), line)

    def test_words_that_are_wrong(self):
        wanted = {
            "main: )": 1, "main: |": 1, "main: a )": 2, "main: a |": 2, "main: . .": 2, "main: . a": 2, "main: a .": 2, "main: a? .": 2,
            "main: A": 1, "main: a1": 1, "main: abcdefghi": 1, "main: abcdefghi?": 1, "main: ?": 1, "main: *": 1, "main: a??": 1, "main: a?*": 1, "main: a+": 1,
            "main: a:": 1, "main: ( )": 2, "main: ( )?": 2, "main: ( a )": 3, "main: ( a )?": 3, "main: ( a )*": 3, "main: ( . )": 3, "main: ( . )?": 3,
            "main: ( . a": 3, "main: ( a? ) )": 3, "main: ( a | )": 4, "main: ( | a )": 2, "main: ( . | . )": 4, "main: ( . | a | . )": 6,
            "main: ( a | b )?": 5, "main: ( a | b )*": 5, "main: ( a b ) )": 4, "main: ( a | b ) |": 6, "main: ( a | b | c | d |": 9, "main: ( a b )? )": 5,
            "main: ((": 1, "main: ( a b)": 3, "main: ( a | ( b ) )": 6, "main: ( a b )+": 4, "main: ( a b )?*": 4, "main: a. b": 1, "main: a , b": 2,
            "main: ( a b ) ?": 4, "main: ( a b )? ?": 5, "main: a ?": 2, "main: (a b )": 1, "main: main:": 1,
        }
        for line, word in wanted.items():
            self.assertEqual(where(parse_program, line), (0, word), line)
            self.assertEqual(where(parse_program, "zz: a b\n" + line + "\n\n"), (1, word), line)

    def test_the_first_wrong_line_is_told(self):
        self.assertEqual(where(parse_program, "a: .\nb: a a )\nc: ("), (1, 3))
        self.assertEqual(where(parse_program, "\n".join(["a: ."] * 20 + ["b"])), (20, 0))

    def test_limits_of_calls(self):
        # The sixth call is too much, and so is an item that would need one.
        wanted = {
            "a a a a a a": 5, "a a a a a ( a": 5, "a a a a a? a?": 5, "( a a a ) ( a a a": 4, "a a a a ( a | a": 7, "a a a a a (": 5, "a a a a ( . | .": 7,
            "( a | a | a | a a a": 9, "a a a a a .": 5, "a a a a ( . | a | a": 8, "( a a a a a a": 6, "( a a a a a | a": 7, "( . | a a a a a |": 8,
            "( ( a a a a a )? | a": 9, "( a a a a a )* (": 7,
        }
        for text, number in wanted.items():
            self.assertEqual(where(parse_program, "main: " + text), (0, number + 1), text)
            self.assertEqual(first_wrong(text.split()), number, text)
        # Behind five calls some items can still be closed, with an empty body.
        wanted = {"a a a a ( a": 6, "( a a a a a": 6, "( a a a a a |": 7, "a ( a a | a a": 7, "a a a ( ( a a": 7, "( ( a a a a a )?": 8, "a a a a ( .": 6, "a a a a ( . |": 7}
        for text, number in wanted.items():
            self.assertEqual(where(parse_program, "main: " + text), (0, number + 1), text)
            self.assertEqual(first_wrong(text.split()), len(text.split()), text)
        for text in ["a a a a a", "a a? a* a a", "( a a a a a )?", "( a | a | a | a a )", "a a a a ( a | . )", "a a a a ( . | a )", "( a a a a a | . )"]:
            self.assertEqual(where(parse_program, "a: .\nmain: " + text), None, text)

    def test_limits_of_items(self):
        texts = [
            "( ( a? | a? ) ( a? | a? ) a a", "( ( a? )? ( a? )? ( a? )? ( a?", "( ( a? )? ( a? )? ( a? )? ( a a",
            "( ( a? )? )? ( ( a? )? )? ( ( a? )? )? (", "( ( a? )? )? ( ( a? )? )? ( a? )? a", "( ( a? )? )? ( ( a? )? )? ( a? )? a a",
            "( ( a? )? )? ( ( a? )? )? ( ( a? )? )? a", "( ( a? )? ( a? )? ( a? )? a a? )?", "( ( a? )? ( a? )? ( a? )? a? a? )?",
            "( ( a? )? ( a? )? ( a? )? ( a | a", "( ( a? )? ( a? )? ( a? )? (", "( ( a? )? ( a? )? ( a? )? a (", "( ( a? )? ( a? )? ( a? )? a? (",
            "( ( a? )? ( a? )? ( a? )? a ( .", "( ( a? )? ( a? )? ( a | a ) ( .", "( ( a? )? ( a? )? ( a | a ) ( . |",
        ]
        for text in texts:
            number = first_wrong(text.split())
            found = where(parse_program, "main: " + text)
            self.assertEqual(found, (None, None) if number is None else (0, number + 1), text)
        # Twelve items, and one more.
        self.assertEqual(where(parse_program, "a: .\nmain: ( ( a? )? )? ( ( a? )? )? ( ( a? )? )?"), None)
        self.assertEqual(where(parse_program, "a: .\nmain: ( ( a? )? )? ( ( a? )? )? ( ( a? )? )? a"), (1, 16))
        self.assertEqual(where(parse_program, "a: .\nmain: ( ( a? )? )? ( ( a? )? )? ( a? )? a"), None)
        self.assertEqual(where(parse_program, "a: .\nmain: ( ( a? )? )? ( ( a? )? )? ( a? )? a a"), (1, 15))

    def test_limits_of_levels(self):
        for text in ["( ( ( a b )? )? )?", "( ( a? )? )?", "( ( ( a | . ) )* )*"]:
            self.assertEqual(where(parse_program, "a: .\nb: .\nmain: " + text), None, text)
        for text, word in {"( ( ( (": 4, "( ( ( a?": 4, "( ( ( a | b*": 6, "( ( ( a b )? | (": None, "( ( ( a b )? | c ( d?": 10, "( ( ( a | (": 6, "( ( a? )? ( ( (": 7}.items():
            number = first_wrong(text.split())
            self.assertEqual(where(parse_program, "main: " + text), (0, number + 1), text)
            if word is not None:
                self.assertEqual(number + 1, word, text)

    def test_all_short_rows_of_words(self):
        words = ["a", "a?", "(", ")", ")?", "|", "."]
        for many in range(1, 5):
            for row in itertools.product(words, repeat=many):
                number = first_wrong(list(row))
                found = where(parse_program, "a: .\nmain: " + " ".join(row))
                self.assertEqual(found, None if number is None else (1, number + 1), row)

    def test_rows_of_words_at_random(self):
        source = random.Random(83)
        wrong = {}
        for _ in range(300):
            row, tries = [], 0
            while len(row) < 22 and tries < 6:
                word = source.choice(["a", "a", "b?", "b*", "(", "(", "(", ")", ")?", ")*", "|", "|", "."])
                if can_go_on(row + [word]) or source.random() < 0.02:
                    row.append(word)
                else:
                    tries += 1
            number = first_wrong(row) if row else 0
            found = where(parse_program, "a: .\nb: .\nmain: " + " ".join(row))
            self.assertEqual(found, None if number is None else (2, number + 1), row)
            wrong[number is None] = wrong.get(number is None, 0) + 1
            for word in ["a", "b*", "(", ")", ")?", "|", "."]:
                number = first_wrong(row + [word])
                found = where(parse_program, " ".join(["main:"] + row + [word]))
                right = None if row + [word] == ["."] else (None, None)
                self.assertEqual(found, right if number is None else (0, number + 1), row + [word])
        self.assertGreater(min(wrong.values()), 40, wrong)

    def test_right_lines_that_are_no_text_of_a_program(self):
        lines = [
            "main: a", "a: .", "main: main", "a: .\na: .\nmain: .", "main: .\na: .", "b: .\na: .\nmain: .", "main: .\nmain: .", "main: a?", "aa: bb? cc",
            "a: b\nb: a\nmain: .", "a: .\nb: .\nc: .\nd: .\ne: .\nf: .\nmain: .", "maine: .", "a: .\nmain: b", "a: b b b\nb: c c c\nc: .\nmain: a a a",
        ]
        for text in lines:
            self.assertEqual(where(parse_program, text), (None, None), text)
        self.assertEqual(where(parse_program, "a: .\nb: .\nc: .\nd: .\ne: .\nmain: ."), None)

    def test_whether_a_name_is_a_function_does_not_matter(self):
        self.assertEqual(where(parse_program, "zz: yy xx* ( ww | . )\nmain: a ) b"), (1, 2))

    def test_long_texts(self):
        self.assertEqual(where(parse_program, "main: " + "a " * 1990 + "a"), (0, 6))
        self.assertEqual(where(parse_program, "a: .\n" * 799 + "a:"), (799, 1))
        self.assertEqual(where(parse_program, "\n" * 4000), (0, 0))
        self.assertEqual(where(parse_program, " " * 4000), (0, 0))
        self.assertEqual(where(parse_program, "main: " + "( " * 1990), (0, 4))


class Samples(unittest.TestCase):
    def test_example(self):
        found = [format_samples([("main",), ("main", "a", "c")]), parse_samples("main.b main"), parse_samples("")]
        self.assertEqual(found, ["main main.a.c", [("main", "b"), ("main",)], []])

    def test_reads_what_is_written(self):
        source = random.Random(84)
        letters = ["a", "zz", "main", "abcdefgh", "x", "maina"]
        for many in list(range(20)) + [199, 200]:
            samples = [tuple(["main"] + source.choices(letters, k=source.randint(0, 7))) for _ in range(many)]
            text = unchanged(self, format_samples, samples)
            self.assertEqual(text, " ".join(".".join(stack) for stack in samples))
            self.assertEqual(unchanged(self, parse_samples, text), samples)

    def test_no_samples_and_most_names(self):
        self.assertEqual(format_samples([]), "")
        self.assertEqual(parse_samples("main." + ".".join(["main"] * 7)), [("main",) * 8])
        self.assertEqual(format_samples([("main",) * 8]), ".".join(["main"] * 8))

    def test_values_that_are_no_samples(self):
        values = [
            None, True, 0, "", "main", (), (("main",),), {}, set(), object(), [None], [""], ["main"], [["main"]], [()], [("a",)], [("main", "")], [("main", "A")],
            [("main", "abcdefghi")], [("main", 1)], [("main", None)], [("main", ["a"])], [("main", ("a",))], [("main",) * 9], [("main",), ("a", "main")],
            [("main",), None], [(b"main",)], [("Main",)], [("main", "a.b")], [("main", "a b")], iter([("main",)]), [[("main",)]],
        ]
        for value in values:
            with self.subTest(value=repr(value)):
                self.assertRaises(InvalidSamples, format_samples, value)

    def test_too_many_samples(self):
        for many in [201, 202, 400]:
            self.assertRaises(InvalidSamples, format_samples, [("main",)] * many)
        self.assertEqual(len(format_samples([("main",)] * 200)), 999)
        # Also those that a function has returned.
        deep = {"main": [("one", [["a", "a"], []])], "a": [("loop", ["b"]), "c"], "b": [], "c": []}
        other = {"main": [("one", [["a", "a"], []])], "a": [("maybe", ["b"]), "c"], "b": [], "c": []}
        found = parting_samples(deep, other)
        self.assertRaises(InvalidSamples, format_samples, found * 100)

    def test_texts_that_are_no_strings(self):
        for value in NO_STRINGS:
            with self.subTest(value=repr(value)):
                self.assertEqual(where(parse_samples, value), (None, None))

    def test_words_that_are_wrong(self):
        wanted = {
            " ": 0, "  ": 0, " main": 0, "main ": 1, "main  main": 1, "a": 0, "main a": 1, "main.": 0, ".main": 0, "main..a": 0, ".": 0, "main .": 1,
            "main.A": 0, "main.a1": 0, "main.abcdefghi": 0, "main.a main,b": 1, "Main": 0, "maine": 0, "main.a main.b mainx main": 2, "main\nmain": 0, "main\n": 0,
            "main main\n": 1, "\n": 0, ".".join(["main"] * 9): 0, "main " + ".".join(["main"] * 9) + " a": 1, "main.a? main": 0, "main: .": 0, "main.main.a b": 1,
            "main main.a  ": 2, "a.main": 0, "mai n": 0,
        }
        for text, word in wanted.items():
            self.assertEqual(where(parse_samples, text), (0, word), text)

    def test_too_many_words(self):
        self.assertEqual(len(parse_samples(" ".join(["main"] * 200))), 200)
        for behind in [" main", " a", " ", "  ", " main main", " main a", " a main"]:
            self.assertEqual(where(parse_samples, " ".join(["main"] * 200) + behind), (0, 200), behind)
        self.assertEqual(where(parse_samples, " ".join(["main"] * 199) + " a main main"), (0, 199))
        self.assertEqual(where(parse_samples, " ".join(["main"] * 199) + " "), (0, 199))
        self.assertEqual(where(parse_samples, " ".join(["main"] * 799)), (0, 200))
