"""[51] to [53]."""

import random
import unittest

from stacksamples.closures import products_of
from stacksamples.conflicts import conflict, is_conflict
from stacksamples.console import Console
from stacksamples.errors import (
    InvalidCommand, InvalidDepth, InvalidIndex, InvalidName, InvalidSamples, InvalidText, NothingToUndo, NotShown,
    StackError, TooLarge,
)
from stacksamples.forms import form_of
from stacksamples.nexts import next_stacks
from stacksamples.programs import callees, is_program
from stacksamples.same import same_call
from stacksamples.shows import shows
from stacksamples.sure import surely_called
from stacksamples.texts import format_program, format_samples, parse_program, parse_samples
from tests import oracle
from tests.oracle import PROGRAM, STRANGE

ROW = "program a: c*;b: d c;c: .;d: .;main: a b a"
FORMS = "program a: .;f: g g;g: .;h: ( ( a | g ) )*;main: f* ( g | a )"
NAMES = ["main", "a", "b"]


def console_with(*rows):
    console = Console()
    for row in rows:
        console.execute(row)
    return console


def row_of(samples):
    return "sample " + format_samples(samples)


def answers(console):
    """What a console answers to all rows that change nothing; an error with its fields."""
    rows = ["shown", "conflict", "sure", "next 1", "next 3", "same 0 1 0", "same 0 1 1", "same 1 2 1"]
    rows += [f"{word} {name}" for word in ["form", "calls"] for name in ["main", "a", "b", "c", "f"]]
    return [answer(console, row) for row in rows]


def answer(console, row):
    try:
        return console.execute(row)
    except StackError as error:
        return type(error).__name__, vars(error)


def expected(program, samples, row):
    """The answer to a row that changes nothing, by the functions."""
    command, *words = row.split(" ")
    numbers = [int(word) for word in words if word.isdigit()]
    try:
        if command == "shown":
            return "yes" if shows(program, samples) else "no"
        if command == "conflict":
            found = conflict(program, samples)
            return "none" if found is None else " ".join(map(str, found))
        if command == "next":
            return " ".join(".".join(stack) for stack in next_stacks(program, samples, *numbers))
        if command == "same":
            return same_call(program, samples, *numbers)
        if command == "sure":
            return " ".join(surely_called(program, samples)) or "none"
        names = callees(program, words[0])
        if command == "calls":
            return " ".join(names) or "none"
        kind, told = form_of(program).get(words[0], (None, None))
        if kind is None:
            return "unreached"
        return f"loose {' '.join(told) or '.'}" if kind == "loose" else "exact " + " | ".join(map(oracle.text_of, told))
    except StackError as error:
        return type(error).__name__, vars(error)


class Refusing(unittest.TestCase):
    def assert_refused(self, console, error, row):
        """A row raises an error and changes nothing, not even what undo does."""
        before = answers(console)
        with self.assertRaises(error) as caught:
            console.execute(row)
        self.assertIs(type(caught.exception), error)
        self.assertEqual(answers(console), before)
        return caught.exception


class Rows(Refusing):
    def check(self, console, program, samples):
        rows = ["shown", "conflict", "sure"] + [f"next {depth}" for depth in range(5)]
        rows += [f"same {first} {second} {depth}" for first, second, depth in [(0, 1, 0), (0, 1, 1), (0, 2, 1), (1, 2, 2), (2, 1, 0), (0, 9, 0)]]
        rows += [f"{word} {name}" for word in ["form", "calls"] for name in sorted(program) + ["zz"]]
        for row in rows:
            self.assertEqual(answer(console, row), expected(program, samples, row), (program, samples, row))

    def test_examples(self):
        rows = [ROW, "sample main.a.c main.a main.a.c main.b", "sample main.a.c", "shown", "same 0 2 1", "same 0 2 2", "sure", "next 2"]
        rows += ["drop 3", "same 0 2 1", "undo", "sample main.b", "shown", "conflict", "undo", "conflict", "calls b", "calls d"]
        console = Console()
        wanted = ["ok", "4", "5", "yes", "surely", "never", "a b c d main", "main main.a", "main.b", "possibly", "ok", "6", "no", "3 4 5", "ok"]
        self.assertEqual([console.execute(row) for row in rows], wanted + ["none", "c d", "none"])
        console = Console()
        rows = [FORMS, "form main", "form f", "form g", "form a", "form h"]
        self.assertEqual([console.execute(row) for row in rows], ["ok", "exact {f} a | {f} g", "loose g", "exact .", "exact .", "unreached"])
        self.assertRaises(InvalidCommand, Console().execute, "shown")

    def test_answers_are_those_of_the_functions(self):
        for text in ["", "main.a main.b", "main main main", "main.b main.a main.b", "main.a.c main.a main.a.c main.b.d", "main.d", "main.a.c.c"]:
            console = console_with(ROW, *["sample " + text] if text else [])
            self.check(console, PROGRAM, parse_samples(text))
        program = parse_program(FORMS[8:].replace(";", "\n"))
        self.check(console_with(FORMS, "sample main.f.g main.f main.g"), program, parse_samples("main.f.g main.f main.g"))

    def test_answers_at_random(self):
        source = random.Random(111)
        shown = {}
        for program in oracle.random_programs(111, 60, NAMES, is_program):
            text = format_program(program).replace("\n", ";")
            samples = oracle.random_stacks(source, program, "main", source.randint(0, 8))
            console = console_with("program " + text, *[row_of([stack]) for stack in samples])
            self.check(console, program, samples)
            shown[shows(program, samples)] = shown.get(shows(program, samples), 0) + 1
        self.assertGreater(min(shown.values()), 10, shown)

    def test_samples_need_not_be_shown(self):
        console = console_with(ROW)
        rows = ["sample main.d main.d.d.d main.main", "sample main.b main.a", "shown", "conflict"]
        self.assertEqual([console.execute(row) for row in rows], ["3", "5", "no", "0"])
        for row in ["sure", "next 1", "same 0 1 0"]:
            error = self.assert_refused(console, NotShown, row)
            self.assertTrue(is_conflict(PROGRAM, parse_samples("main.d main.d.d.d main.main main.b main.a"), error.numbers))
        self.assertEqual([console.execute(row) for row in ["drop 0", "drop 0", "drop 0", "shown", "sure"]], ["main.d", "main.d.d.d", "main.main", "yes", "a b c d main"])

    def test_a_program_has_no_samples(self):
        console = console_with(ROW, "sample main.a main.b", ROW)
        self.assertEqual([console.execute(row) for row in ["shown", "sure", "conflict", "next 1", "sample main"]], ["yes", "none", "none", "main", "1"])

    def test_longest_stack(self):
        console = console_with("program main: main?")
        stack = ".".join(["main"] * 8)
        self.assertEqual([console.execute(row) for row in [f"sample {stack}", "shown", "drop 0"]], ["1", "yes", stack])

    def test_undo(self):
        console = Console()
        rows = [ROW, "sample main.a main.b", "drop 0", "sample main.b main", FORMS, "sample main.f", "drop 0", "sample main.g"]
        states = [answers(console)]
        for row in rows:
            console.execute(row)
            states.append(answers(console))
            # What changes nothing is not reverted.
            for other in ["shown", "sure", "drop 9", "sample zz", "sample main.zz", "program x", "nothing", "next 9"]:
                answer(console, other)
        for before in states[:-1][::-1]:
            self.assertEqual(console.execute("undo"), "ok")
            self.assertEqual(answers(console), before)
        for _ in range(2):
            self.assert_refused(console, NothingToUndo, "undo")
        self.assertRaises(InvalidCommand, console.execute, "shown")
        self.assertEqual([console.execute(row) for row in [ROW, "shown", "undo"]], ["ok", "yes", "ok"])

    def test_undo_is_not_undone(self):
        console = console_with(ROW, "sample main.a", "sample main.b", "undo", "drop 0")
        self.assertEqual([console.execute(row) for row in ["undo", "sample main", "undo", "drop 0", "undo", "undo", "undo"]], ["ok", "2", "ok", "main.a", "ok", "ok", "ok"])
        self.assert_refused(console, NothingToUndo, "undo")

    def test_undo_without_a_program(self):
        self.assert_refused(Console(), NothingToUndo, "undo")
        self.assert_refused(console_with(ROW, "undo"), NothingToUndo, "undo")

    def test_two_consoles(self):
        console, other = console_with(ROW, "sample main.a"), console_with(FORMS)
        self.assertEqual([console.execute("sample main.b"), other.execute("sample main.f"), console.execute("undo"), other.execute("undo")], ["2", "1", "ok", "ok"])
        self.assertEqual([console.execute("next 2"), other.execute("calls f")], ["main main.a main.b", "g"])

    def test_form(self):
        console = console_with("program a: b;b: .;main: ( a | . ) b* a? ( a | b );z: a")
        rows = {"form main": "exact a {b} a | a {b} a b", "form a": "exact b", "form b": "exact .", "form z": "unreached"}
        for row in rows:
            self.assertEqual(console.execute(row), expected(parse_program("a: b\nb: .\nmain: ( a | . ) b* a? ( a | b )\nz: a"), [], row))
        console = console_with("program a: ( b c )*;b: .;c: b;main: ( a b )*")
        self.assertEqual([console.execute(f"form {name}") for name in ["main", "a", "b", "c"]], ["exact {a b}", "loose b c", "loose .", "loose b"])
        self.assertEqual(console_with("program main: .").execute("form main"), "exact .")
        self.assertEqual(products_of({"main": []}, "main"), [[]])

    def test_many_rows(self):
        console = console_with("program " + ";".join(f"{name}: ( main a b c d )*" for name in ["a", "b", "c", "d", "e", "main"]))
        for number in range(199):
            self.assertEqual(console.execute("sample main.a.b.c.d.main.a." + "bc"[number % 2]), str(number + 1))
        rows = ["shown", "same 0 198 6", "same 0 198 7", "same 0 1 7", "sure", "next 1", "conflict"]
        self.assertEqual([console.execute(row) for row in rows], ["yes", "possibly", "never", "never", "a b c d main", "main", "none"])
        for _ in range(200):
            self.assertEqual(console.execute("undo"), "ok")
        self.assert_refused(console, NothingToUndo, "undo")


class Errors(Refusing):
    def test_rows_that_are_no_strings(self):
        for console in [Console(), console_with(ROW), console_with(ROW, "sample main.a main.b")]:
            for row in [value for value in STRANGE if not isinstance(value, str)] + [["shown"], ("shown",), b"shown", 0.0]:
                with self.subTest(row=repr(row)):
                    self.assert_refused(console, InvalidCommand, row)

    def test_rows_that_are_none_of_these(self):
        rows = [
            "", " ", "  ", "Shown", "show", "shownn", "shown.", " shown", "shown ", "shown x", "shown  ", "undo ", " undo", "undo 1", "undoo", "conflict ", "conflict 0",
            "sure ", "sure a", "surely", "drop", "drop ", "drop  0", "drop 0 ", "drop 0 1", "next", "next ", "next 1 2", "next  1", "same", "same 0", "same 0 1", "same 0 1 ",
            "same 0 1 0 0", "same 0  1 0", "same 0 1 0 ", "form", "form ", "form a b", "form  a", "form a ", "calls", "calls ", "calls a b", "calls a ", "program", "program ",
            "sample", "sample ", "programa: .", "sample\n", "samples main", "programs main: .", "add main", "a", ".", "main: .", "main", ";", "drop;0", "0", "PROGRAM main: .",
        ]
        for row in rows:
            for console in [Console(), console_with(ROW, "sample main.a main.b")]:
                with self.subTest(row=row):
                    self.assert_refused(console, InvalidCommand, row)

    def test_rows_with_a_newline(self):
        rows = ["\n", "shown\n", "\nshown", "program main: .\n", "program a: .\nmain: a", "program\nmain: .", "sample main\n", "sample main\nmain", "sample\nmain", "drop 0\n", "drop\n0", "undo\n", "form a\n"]
        for row in rows:
            for console in [Console(), console_with(ROW, "sample main.a main.b")]:
                with self.subTest(row=row):
                    self.assert_refused(console, InvalidCommand, row)

    def test_numbers(self):
        console = console_with(ROW, "sample main.a main.a main.b")
        for word in ["00", "01", "-1", "-0", "+1", "1.0", "a", "0x1", "1_0", "1000000000", "0000000000", "", ".", "1,", "one", "1e1", "0" * 9]:
            for row in [f"drop {word}", f"next {word}", f"same {word} 1 0", f"same 0 {word} 0", f"same 0 1 {word}", f"same 9 9 {word}"]:
                with self.subTest(row=row):
                    self.assert_refused(console, InvalidCommand, row)
        # Numbers of nine digits are numbers, be they too large or not.
        self.assert_refused(console, InvalidIndex, "drop 999999999")
        self.assert_refused(console, InvalidDepth, "next 100000000")
        self.assert_refused(console, InvalidIndex, "same 999999999 1 0")
        self.assert_refused(console, InvalidDepth, "same 0 1 123456789")
        self.assertEqual([console.execute(row) for row in ["same 0 1 0", "drop 0"]], ["surely", "main.a"])

    def test_names(self):
        console = console_with(ROW)
        for word in ["A", "a1", "abcdefghi", "a.b", "a:", "1", "Main", "main?", "*", ".", "a_b", "-"]:
            for command in ["form", "calls"]:
                self.assert_refused(console, InvalidCommand, f"{command} {word}")
        for word in ["e", "zz", "abcdefgh", "mai", "maina"]:
            for command in ["form", "calls"]:
                self.assert_refused(console, InvalidName, f"{command} {word}")

    def test_without_a_program(self):
        rows = ["sample main", "sample x", "sample  ", "drop 0", "drop x", "shown", "conflict", "next 1", "next 9", "same 0 1 0", "sure", "form main", "form zz", "calls main"]
        for console in [Console(), console_with(ROW, "undo"), console_with(ROW, "sample main", "undo", "undo")]:
            for row in rows:
                self.assert_refused(console, InvalidCommand, row)
            self.assert_refused(console, NothingToUndo, "undo")

    def test_texts_of_programs(self):
        wanted = {
            "a: .;main: a ( a )?": (1, 4), " main: .": (0, 0), " ": (0, 0), "  ": (0, 0), "main:": (0, 1), "main: ": (0, 1), ";": (0, 0), "main: .;": (1, 0), "a: .;;main: a": (1, 0),
            "main: a": (None, None), "main: .;a: .": (None, None), "a: .; main: .": (1, 0), "a: . ;main: .": (0, 2), "main: a a a a a a": (0, 6), "x": (0, 0), "main": (0, 0),
            "main: main": (None, None), "a: .;a: .;main: .": (None, None),
        }
        for text, fields in wanted.items():
            for console in [Console(), console_with(ROW, "sample main.a")]:
                with self.subTest(text=text):
                    error = self.assert_refused(console, InvalidText, "program " + text)
                    self.assertEqual((error.line, error.word), fields)

    def test_texts_of_samples(self):
        console = console_with(ROW, "sample main.a")
        wanted = {
            " ": 0, "  ": 0, " main": 0, "main ": 1, "main  main": 1, "a": 0, "main a": 1, "main. main": 0, "main main.zz main..a": 2, "main.A": 0, "main;main": 0, "main,": 0,
            ".".join(["main"] * 9): 0, "main.zz main.zz x": 2, " ".join(["main"] * 200) + " main": 200, " ".join(["main"] * 200) + " x": 200, " ".join(["main"] * 199) + " x": 199,
        }
        for text, word in wanted.items():
            with self.subTest(text=text):
                error = self.assert_refused(console, InvalidText, "sample " + text)
                self.assertEqual((error.line, error.word), (0, word))

    def test_names_in_samples(self):
        console = console_with(ROW)
        for text in ["main.zz", "main main.e", "main.a.zz main", "main.abcdefgh", " ".join(["main.zz"] * 200)]:
            self.assert_refused(console, InvalidSamples, "sample " + text)
        console.execute(row_of([("main",)] * 199))
        self.assert_refused(console, InvalidSamples, "sample main main.zz")

    def test_too_many_samples(self):
        console = console_with(ROW, row_of([("main",)] * 198))
        for text in ["main main main", "main.a main.b main.d main", " ".join(["main"] * 200)]:
            self.assertEqual(self.assert_refused(console, TooLarge, "sample " + text).limit, 200)
        self.assertEqual([console.execute(row) for row in ["sample main main.a", "shown", "drop 0", "sample main.b"]], ["200", "yes", "main", "200"])
        self.assertEqual(self.assert_refused(console, TooLarge, "sample main").limit, 200)
        self.assertEqual(console.execute("next 2"), "main main.a main.b")

    def test_order_of_errors(self):
        console = console_with(ROW, "sample main.d main.a main")
        wanted = [
            ("same 3 4 9", InvalidIndex), ("same 0 3 9", InvalidIndex), ("same 1 0 9", InvalidIndex), ("same 1 1 0", InvalidIndex), ("same 0 1 2", InvalidDepth),
            ("same 1 2 1", InvalidDepth), ("same 0 1 1", NotShown), ("next 0", InvalidDepth), ("next 4", InvalidDepth), ("next 3", NotShown), ("sure", NotShown),
            ("drop 3", InvalidIndex), ("form zz", InvalidName), ("calls zz", InvalidName),
        ]
        for row, error in wanted:
            found = self.assert_refused(console, error, row)
            if error is NotShown:
                self.assertEqual(found.numbers, [0])
        self.assertEqual(console.execute("form d"), "exact .")

    def test_long_rows(self):
        console = console_with(ROW)
        for row in ["x" * 4000, " " * 4000, "shown" + " " * 3995, "drop " + "1" * 3995, "form " + "a" * 3995]:
            self.assert_refused(console, InvalidCommand, row)
        self.assertEqual(self.assert_refused(console, InvalidText, "sample " + "main " * 798).word, 200)
        self.assertEqual(self.assert_refused(console, InvalidText, "program " + ";" * 3990).line, 0)
