"""Programs: whether a value is one, what its functions call, and their words."""

from stacksamples.bodies import names_in, net_of, states_behind
from stacksamples.errors import InvalidName, InvalidProgram, InvalidSamples, InvalidStacks, InvalidWord

MOST_LETTERS = 8
MOST_FUNCTIONS = 6
MOST_CALLS = 5
MOST_ITEMS = 12
MOST_LEVELS = 4
FEWEST_CHOICES = 2
MOST_CHOICES = 4
MOST_CALLS_TO_RETURN = 12
MOST_NAMES_IN_STACK = 8
MOST_SAMPLES = 200


def is_name(value):
    """Return whether any value is a name."""
    if not isinstance(value, str) or not 1 <= len(value) <= MOST_LETTERS:
        return False
    return all(["a" <= letter <= "z" for letter in value])


def is_integer(value):
    """Return whether any value is an integer."""
    return isinstance(value, int) and not isinstance(value, bool)


def is_function(program, value):
    """Return whether any value is a function of a program."""
    return isinstance(value, str) and value in program


def _choices(item):
    """Return the values in the places of the bodies within an item, None if it is no such item."""
    if not isinstance(item, tuple) or len(item) != 2 or not isinstance(item[1], list):
        return None
    kind, within = item
    if kind == "maybe" or kind == "loop":
        return [within] if within else None
    if kind == "one" and FEWEST_CHOICES <= len(within) <= MOST_CHOICES and within.count([]) <= 1:
        return within
    return None


def _item_size(program, item, level):
    """Return how many calls and further items an item has, None if it is not an item.

    The body in which the item stands has this level; the body of a function has level 1.
    """
    if isinstance(item, str):
        return (1, 0) if item in program else None
    choices = _choices(item)
    if choices is None:
        return None
    sizes = [_body_size(program, body, level + 1) for body in choices]
    if None in sizes:
        return None
    return sum([calls for calls, _ in sizes]), sum([items for _, items in sizes])


def _body_size(program, body, level):
    """Return how many calls and items a body has, None if it is not a body within the limits."""
    # This limit also ends the way down in a value that contains itself.
    if not isinstance(body, list) or level > MOST_LEVELS:
        return None
    calls = 0
    items = len(body)
    for item in body:
        size = _item_size(program, item, level)
        if size is None:
            return None
        calls = calls + size[0]
        items = items + size[1]
        if calls > MOST_CALLS or items > MOST_ITEMS:
            return None
    return calls, items


def _least_in_item(least, item):
    """Return the least number of calls that an item needs."""
    if isinstance(item, str):
        return least[item]
    if item[0] == "one":
        return min([_least_in_body(least, body) for body in item[1]])
    return 0


def _least_in_body(least, body):
    """Return the least number of calls that a body needs."""
    return sum([_least_in_item(least, item) for item in body])


def _least_calls(program):
    """Return a dict from each function to the calls of a shortest call of it.

    A number above MOST_CALLS_TO_RETURN stands for each larger one, and for a function
    that never returns.
    """
    too_many = MOST_CALLS_TO_RETURN + 1
    least = {name: too_many for name in program}
    # In a shortest call no function is open twice, so no more rounds than functions are needed.
    for _ in range(len(program)):
        least = {name: min(too_many, 1 + _least_in_body(least, program[name])) for name in program}
    return least


def _quick_word(least, body):
    """Return a word of a body whose calls need the least number of calls."""
    found = []
    for item in body:
        if isinstance(item, str):
            found.append(item)
        elif item[0] == "one":
            needs = [_least_in_body(least, inner) for inner in item[1]]
            found.extend(_quick_word(least, item[1][needs.index(min(needs))]))
    return found


def quick_words(program):
    """Return a dict from each function to the word that a shortest call of it calls."""
    least = _least_calls(program)
    return {name: _quick_word(least, program[name]) for name in program}


def is_program(value):
    """Return whether any value is a program."""
    if not isinstance(value, dict) or len(value) > MOST_FUNCTIONS or "main" not in value:
        return False
    if not all([is_name(name) for name in value]):
        return False
    if not all([_body_size(value, value[name], 1) is not None for name in value]):
        return False
    least = _least_calls(value)
    return all([least[name] <= MOST_CALLS_TO_RETURN for name in least])


def check_program(program):
    """Raise InvalidProgram unless a value is a program."""
    if not is_program(program):
        raise InvalidProgram("not a program")


def check_name(program, name):
    """Raise InvalidName unless a value is a function of a program."""
    if not is_function(program, name):
        raise InvalidName("not a function of the program")


def check_word(program, word):
    """Raise InvalidWord unless a value is a word of functions of a program."""
    # A word may be of any length: full_word returns words that are longer than the passed ones.
    if not isinstance(word, list) or not all([is_function(program, name) for name in word]):
        raise InvalidWord("not a list of functions of the program")


def is_stack(program, value):
    """Return whether any value is a stack of functions of a program."""
    if not isinstance(value, tuple) or not 1 <= len(value) <= MOST_NAMES_IN_STACK:
        return False
    return all([is_function(program, name) for name in value])


def is_stack_of_names(value):
    """Return whether any value is a stack that begins with main, of any names."""
    if not isinstance(value, tuple) or not 1 <= len(value) <= MOST_NAMES_IN_STACK:
        return False
    return value[0] == "main" and all([is_name(name) for name in value])


def check_stacks(program, stacks):
    """Raise InvalidStacks unless a value is a list of stacks that all begin with the same function."""
    if not isinstance(stacks, list) or not all([is_stack(program, stack) for stack in stacks]):
        raise InvalidStacks("not a list of stacks of functions of the program")
    if not all([stack[0] == stacks[0][0] for stack in stacks]):
        raise InvalidStacks("the stacks do not begin with the same function")


def check_samples(program, samples):
    """Raise InvalidSamples unless a value is a list of stacks that all begin with main."""
    if not isinstance(samples, list) or not all([is_stack(program, stack) for stack in samples]):
        raise InvalidSamples("not a list of stacks of functions of the program")
    if not all([stack[0] == "main" for stack in samples]):
        raise InvalidSamples("not all samples begin with main")


def callees(program, name):
    """Return the ascending list of the names that occur in the body of a function."""
    check_program(program)
    check_name(program, name)
    return sorted(set(names_in(program[name])))


def reached(program):
    """Return the ascending list of main and of all functions that calls lead to from there."""
    check_program(program)
    found = {"main": True}
    waiting = ["main"]
    while waiting:
        caller = waiting.pop()
        for name in names_in(program[caller]):
            if name not in found:
                found[name] = True
                waiting.append(name)
    return sorted(found)


def shortest_call(program, name):
    """Return the least number of calls of a call of a function that returns, itself included."""
    check_program(program)
    check_name(program, name)
    return _least_calls(program)[name]


def is_word(program, name, word):
    """Return whether a word is one of the words of a function."""
    check_program(program)
    check_name(program, name)
    check_word(program, word)
    net = net_of(program[name])
    return any([state in net[2] for state in states_behind(net, word)])


def is_start(program, name, word):
    """Return whether a word is a start of a function."""
    check_program(program)
    check_name(program, name)
    check_word(program, word)
    # Each state of a net leads to an end, so each word that leads to a state is a start.
    return len(states_behind(net_of(program[name]), word)) > 0
