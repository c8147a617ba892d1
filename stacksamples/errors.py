"""The errors of the package. Each one stands directly under StackError."""


class StackError(ValueError):
    """The base of all errors of this package."""


class InvalidProgram(StackError):
    """A value is not a program."""


class InvalidName(StackError):
    """A value is not a name that may stand there."""


class InvalidWord(StackError):
    """A value is not a word."""


class InvalidStack(StackError):
    """A value is not a stack."""


class InvalidStacks(StackError):
    """A value is not a list of stacks that begin with the same function."""


class InvalidSamples(StackError):
    """A value is not a list of samples."""


class InvalidIndex(StackError):
    """A value is not the number of a sample."""


class InvalidDepth(StackError):
    """A value is not a depth that may stand there."""


class InvalidProducts(StackError):
    """A value is not products."""


class InvalidRun(StackError):
    """A value is not a run of the program."""


class InvalidCommand(StackError):
    """A value is not a row that a console performs."""


class NothingToUndo(StackError):
    """There is no call or row left that can be reverted."""


class NotShown(StackError):
    """Samples are not shown; the ones with these numbers contradict one another."""

    def __init__(self, numbers):
        # A list stays the caller's own: it may change there without changing here.
        self.numbers = list(numbers) if isinstance(numbers, list) else numbers


class InvalidText(StackError):
    """A value is not a text; the word with this number in this line is the first wrong one."""

    def __init__(self, line, word):
        self.line = line
        self.word = word


class TooLarge(StackError):
    """There are more values than this limit."""

    def __init__(self, limit):
        self.limit = limit
