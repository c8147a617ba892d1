"""Texts of programs and of samples."""

from stacksamples.errors import InvalidSamples, InvalidText
from stacksamples.programs import (
    MOST_CALLS, MOST_CHOICES, MOST_ITEMS, MOST_LEVELS, MOST_SAMPLES,
    check_program, is_name, is_program, is_stack_of_names,
)

KINDS = {"?": "maybe", "*": "loop"}
SIGNS = {"maybe": "?", "loop": "*"}


def _is_one_name(body):
    """Return whether a body is one name."""
    return len(body) == 1 and isinstance(body[0], str)


def _item_text(item):
    """Return the text of an item of a body."""
    if isinstance(item, str):
        return item
    kind, within = item
    if kind == "one":
        return "( " + " | ".join([_body_text(body) for body in within]) + " )"
    if _is_one_name(within):
        return within[0] + SIGNS[kind]
    return "( " + _body_text(within) + " )" + SIGNS[kind]


def _body_text(body):
    """Return the text of a body."""
    return " ".join([_item_text(item) for item in body]) if body else "."


def format_program(program):
    """Return the text of a program."""
    check_program(program)
    return "\n".join([f"{name}: {_body_text(program[name])}" for name in sorted(program)])


class BodyReader:
    """Reads the words of the text of a body, one behind the other.

    The groups are the bodies of the function, and those of each item that is still open, up to
    the one that is read now. This one is None ahead of its first word, and empty behind a dot.
    """

    def __init__(self):
        self.groups = [[None]]
        self.many_calls = 0
        self.many_items = 0

    def take(self, word):
        """Read one more word; return whether some body within the limits begins with the words so far."""
        sign = word[-1:]
        if is_name(word):
            is_taken = self._take_item(word, 1)
        elif sign in KINDS and is_name(word[:-1]):
            # The body within this item is one level deeper.
            is_taken = len(self.groups) < MOST_LEVELS and self._take_item((KINDS[sign], [word[:-1]]), 2)
        elif word == "(":
            is_taken = self._take_opening()
        elif word == ".":
            is_taken = self._take_dot()
        elif word == "|":
            is_taken = self._take_bar()
        else:
            is_taken = self._take_closing(word)
        return is_taken and self._is_within_limits()

    def whole_body(self):
        """Return the body of the function, None if it does not end with the words so far."""
        return self.groups[0][0] if len(self.groups) == 1 else None

    def _put(self, item):
        """Put an item behind those of the body that is read now."""
        bodies = self.groups[-1]
        if bodies[-1] is None:
            bodies[-1] = []
        bodies[-1].append(item)

    def _take_item(self, item, many_items):
        """Read an item with one call in all, and return whether it may stand here."""
        if self.groups[-1][-1] == []:
            return False
        self.many_calls += 1
        self.many_items += many_items
        self._put(item)
        return True

    def _take_opening(self):
        """Read that an item begins, and return whether one may stand here."""
        if self.groups[-1][-1] == [] or len(self.groups) == MOST_LEVELS:
            return False
        self.many_items += 1
        self.groups.append([None])
        return True

    def _take_dot(self):
        """Read an empty body, and return whether it may stand here."""
        bodies = self.groups[-1]
        if bodies[-1] is not None or [] in bodies:
            return False
        bodies[-1] = []
        return True

    def _take_bar(self):
        """Read that one more body begins, and return whether it may stand here."""
        bodies = self.groups[-1]
        if len(self.groups) == 1 or bodies[-1] is None or len(bodies) == MOST_CHOICES:
            return False
        bodies.append(None)
        return True

    def _take_closing(self, word):
        """Read that an item ends, and return whether it may end here with this word."""
        bodies = self.groups[-1]
        if len(self.groups) == 1 or bodies[-1] is None:
            return False
        if word == ")" and len(bodies) > 1:
            item = ("one", bodies)
        elif word in (")?", ")*") and len(bodies) == 1 and bodies[0] and not _is_one_name(bodies[0]):
            item = (KINDS[word[1]], bodies[0])
        else:
            return False
        self.groups.pop()
        self._put(item)
        return True

    def _is_within_limits(self):
        """Return whether the open items can be closed within the limits."""
        # An item around another one can be closed at once, so only the last group can need a call.
        needed = 1 if len(self.groups) > 1 and self._needs_call() else 0
        return self.many_calls + needed <= MOST_CALLS and self.many_items + needed <= MOST_ITEMS

    def _needs_call(self):
        """Return whether the last item cannot be closed without one more call, since one body at most is empty."""
        bodies = self.groups[-1]
        if bodies[-1] is None:
            return len(bodies) == 1 or [] in bodies
        return bodies == [[]]


def _read_line(words):
    """Return a tuple of the number of the first wrong word of a line and its body, one of them None."""
    if words[0][-1:] != ":" or not is_name(words[0][:-1]):
        return 0, None
    reader = BodyReader()
    for number in range(1, len(words)):
        if not reader.take(words[number]):
            return number, None
    body = reader.whole_body()
    return len(words) if body is None else None, body


def parse_program(text):
    """Return the program with a text."""
    if not isinstance(text, str):
        raise InvalidText(None, None)
    program = {}
    for number, line in enumerate(text.split("\n")):
        words = line.split(" ")
        wrong, body = _read_line(words)
        if wrong is not None:
            raise InvalidText(number, wrong)
        program[words[0][:-1]] = body
    # Names that stand twice or in another order give another text.
    if not is_program(program) or format_program(program) != text:
        raise InvalidText(None, None)
    return program


def format_samples(samples):
    """Return the text of samples, in which any names may occur."""
    if not isinstance(samples, list) or len(samples) > MOST_SAMPLES:
        raise InvalidSamples("not a list, or too long")
    if not all([is_stack_of_names(stack) for stack in samples]):
        raise InvalidSamples("not only stacks that begin with main")
    return " ".join([".".join(stack) for stack in samples])


def parse_samples(text):
    """Return the samples with a text, in which any names may occur."""
    if not isinstance(text, str):
        raise InvalidText(None, None)
    if not text:
        return []
    samples = []
    for number, word in enumerate(text.split(" ")):
        stack = tuple(word.split("."))
        if number == MOST_SAMPLES or not is_stack_of_names(stack):
            raise InvalidText(0, number)
        samples.append(stack)
    return samples
