"""Forms: what of a program its samples can tell, and samples that only one of two programs shows.

In an exact function a call can be told from two calls; all calls around it can, too. A way
to it is a tuple (stack, turns): the stack that ends with it, and a tuple (stack, ahead, behind)
for each call around it, from the outermost one on. Between the calls of the words ahead and
behind, this call can call the next function of the way once, but not twice.
"""

from stacksamples.blocks import guides_of, tracks_of
from stacksamples.closures import is_product_in, normal_products, once_between
from stacksamples.programs import callees, check_program, is_stack_of_names, reached


def exact_functions(program):
    """Return the ascending list of the exact functions."""
    check_program(program)
    found = {"main": True}
    waiting = ["main"]
    while waiting:
        caller = waiting.pop()
        products = normal_products(program[caller])
        for name in callees(program, caller):
            if name not in found and once_between(products, name) is not None:
                found[name] = True
                waiting.append(name)
    return sorted(found)


def form_of(program):
    """Return the form of a program."""
    exact = exact_functions(program)
    found = {}
    for name in reached(program):
        if name in exact:
            found[name] = ("exact", normal_products(program[name]))
        else:
            found[name] = ("loose", callees(program, name))
    return found


def same_lists(program, other):
    """Return whether two programs show the same samples."""
    return form_of(program) == form_of(other)


def _stack_of_one(program, other):
    """Return a stack that only one of two programs can show, None if there is none."""
    stacks = [("main",)]
    seen = {"main": True}
    at = 0
    while at < len(stacks):
        stack = stacks[at]
        names = callees(program, stack[-1])
        only_one = sorted(set(names) ^ set(callees(other, stack[-1])))
        if only_one:
            return stack + (only_one[0],)
        for name in names:
            if name not in seen:
                seen[name] = True
                stacks.append(stack + (name,))
        at = at + 1
    return None


def _long_word(atoms, times):
    """Return a word of some atoms in which the names of each tuple are called so many times, in turn."""
    word = []
    for atom in atoms:
        word.extend([atom] if isinstance(atom, str) else list(atom) * times)
    return word


def _times_for(products):
    """Return a number of times such that a long word is a word of products only if all words of its atoms are."""
    # An atom takes away one turn of a tuple at most, unless it is a tuple with all names of that one.
    return 1 + max([len(product) for product in products])


def _word_of_one(products, others):
    """Return a word that is one of some products or of others, but not of both; None if there is none."""
    for product in products:
        if not is_product_in(others, product):
            return _long_word(product, _times_for(others))
    for product in others:
        if not is_product_in(products, product):
            return _long_word(product, _times_for(products))
    return None


def _ways_on(program, way):
    """Return the ways to the functions that the last function of a way calls and in which they are not repeatable."""
    stack, turns = way
    products = normal_products(program[stack[-1]])
    times = _times_for(products)
    found = []
    for name in callees(program, stack[-1]):
        once = once_between(products, name)
        if once is not None:
            turn = (stack, _long_word(once[0], times), _long_word(once[1], times))
            found.append((stack + (name,), turns + [turn]))
    return found


def _samples_on(way, word):
    """Return samples that are shown if and only if a word is a part of the last function of a way."""
    stack, turns = way
    found = []
    for name in word:
        found = found + [stack + (name,), stack]
    for outer, ahead, behind in reversed(turns):
        # The stack of the call alone between two calls tells that they are two.
        first = [shown for name in ahead for shown in [outer + (name,), outer]]
        last = [shown for name in behind for shown in [outer, outer + (name,)]]
        found = first + found + last
    return found


def parting_samples(program, other):
    """Return samples that exactly one of two programs shows, None if there are none."""
    check_program(program)
    check_program(other)
    stack = _stack_of_one(program, other)
    if stack is not None:
        return [stack]
    ways = [(("main",), [])]
    seen = {"main": True}
    at = 0
    while at < len(ways):
        name = ways[at][0][-1]
        word = _word_of_one(normal_products(program[name]), normal_products(other[name]))
        if word is not None:
            return _samples_on(ways[at], word)
        # The functions on this way have the same parts in both programs, so both have the same ways on.
        further = _ways_on(program, ways[at])
        for way in further:
            if way[0][-1] not in seen:
                seen[way[0][-1]] = True
                ways.append(way)
        at = at + 1
    return None


def _shows_stacks(program, samples):
    """Return whether a program shows samples in which any names may occur."""
    # No function calls what is no function, so a track ends ahead of such a name.
    return tracks_of(guides_of(program), samples)[-1] is not None


def is_parting(program, other, value):
    """Return whether any value is samples that exactly one of two programs shows."""
    check_program(program)
    check_program(other)
    if not isinstance(value, list) or not all([is_stack_of_names(stack) for stack in value]):
        return False
    return _shows_stacks(program, value) != _shows_stacks(other, value)
