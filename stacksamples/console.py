"""A console: rows that ask about a program and samples, and their answers."""

from stacksamples.closures import product_text
from stacksamples.conflicts import conflict
from stacksamples.errors import InvalidCommand, InvalidIndex, InvalidSamples, NothingToUndo, TooLarge
from stacksamples.forms import form_of
from stacksamples.nexts import next_stacks
from stacksamples.programs import MOST_SAMPLES, callees, check_name, is_name, is_stack
from stacksamples.same import same_call
from stacksamples.shows import shows
from stacksamples.sure import surely_called
from stacksamples.texts import format_samples, parse_program, parse_samples

MOST_DIGITS = 9
# What stands behind the first word of a row, word by word.
PLANS = {
    "drop": ("number",),
    "undo": (),
    "shown": (),
    "conflict": (),
    "next": ("number",),
    "same": ("number", "number", "number"),
    "sure": (),
    "form": ("name",),
    "calls": ("name",),
}


def _is_number(word):
    """Return whether a word is a number in decimal digits without leading zeros."""
    if not 1 <= len(word) <= MOST_DIGITS or not all(["0" <= digit <= "9" for digit in word]):
        return False
    return word == "0" or word[0] != "0"


def _values_of(plan, words):
    """Return the numbers and names that some words are, as a plan has them."""
    if len(words) != len(plan):
        raise InvalidCommand("another number of words")
    values = []
    for kind, word in zip(plan, words):
        if not (_is_number(word) if kind == "number" else is_name(word)):
            raise InvalidCommand("not a number or a name")
        values.append(int(word) if kind == "number" else word)
    return values


def _read_row(row):
    """Return the first word of a row and the values behind it, which are one text for some rows."""
    if not isinstance(row, str) or "\n" in row:
        raise InvalidCommand("not one row")
    command, space, text = row.partition(" ")
    if command in ("program", "sample"):
        if not text:
            raise InvalidCommand("an empty text")
        return command, [text]
    if command not in PLANS:
        raise InvalidCommand("not a row that is known")
    return command, _values_of(PLANS[command], text.split(" ") if space else [])


def _text_of(values):
    """Return the text of several numbers or names, none if there are none."""
    return " ".join([str(value) for value in values]) if values else "none"


def _form_text(program, name):
    """Return what the form of a program has for a function, as a text."""
    check_name(program, name)
    form = form_of(program)
    if name not in form:
        return "unreached"
    kind, told = form[name]
    if kind == "exact":
        return "exact " + " | ".join([product_text(product) for product in told])
    return "loose " + (" ".join(told) if told else ".")


def _answer(program, samples, command, values):
    """Return the answer to a row that changes nothing."""
    if command == "shown":
        return "yes" if shows(program, samples) else "no"
    if command == "conflict":
        return _text_of(conflict(program, samples))
    if command == "next":
        return format_samples(next_stacks(program, samples, values[0]))
    if command == "same":
        return same_call(program, samples, values[0], values[1], values[2])
    if command == "sure":
        return _text_of(surely_called(program, samples))
    if command == "form":
        return _form_text(program, values[0])
    return _text_of(callees(program, values[0]))


class Console:
    """A program, samples that it need not show, and those ahead of each row that can be reverted."""

    def __init__(self):
        self._program = None
        # No list of samples is ever changed, so earlier states may share it.
        self._samples = []
        self._earlier = []

    def execute(self, row):
        """Perform a row and return its answer."""
        command, values = _read_row(row)
        if command == "undo":
            return self._undo()
        if command == "program":
            return self._take_program(values[0])
        if self._program is None:
            raise InvalidCommand("there is no program")
        if command == "sample":
            return self._take_samples(values[0])
        if command == "drop":
            return self._drop(values[0])
        return _answer(self._program, self._samples, command, values)

    def _change_to(self, program, samples):
        """Hold another program and other samples, in a way that can be reverted."""
        self._earlier.append((self._program, self._samples))
        self._program = program
        self._samples = samples

    def _undo(self):
        """Revert the last row that changed something and has not been reverted."""
        if not self._earlier:
            raise NothingToUndo("no row is left that can be reverted")
        self._program, self._samples = self._earlier.pop()
        return "ok"

    def _take_program(self, text):
        """Hold the program with a text, without samples."""
        self._change_to(parse_program(text.replace(";", "\n")), [])
        return "ok"

    def _take_samples(self, text):
        """Put the samples with a text behind the others."""
        more = parse_samples(text)
        if not all([is_stack(self._program, stack) for stack in more]):
            raise InvalidSamples("not only functions of the program")
        if len(self._samples) + len(more) > MOST_SAMPLES:
            raise TooLarge(MOST_SAMPLES)
        self._change_to(self._program, self._samples + more)
        return str(len(self._samples))

    def _drop(self, number):
        """Take the sample with a number out."""
        if number >= len(self._samples):
            raise InvalidIndex("not the number of a sample")
        dropped = self._samples[number]
        self._change_to(self._program, self._samples[:number] + self._samples[number + 1:])
        return format_samples([dropped])
