"""What the tests compare the program with: slow and plain readings of DOC.md, and values to try."""

import copy
import itertools
import random

PROGRAM = {"main": ["a", "b", "a"], "a": [("loop", ["c"])], "b": ["d", "c"], "c": [], "d": []}

# Values of kinds that are neither programs nor names nor words nor products.
STRANGE = [
    None, True, False, 0, 1, -1, 2**70, "", "A", "a b", "\n", "main ", b"main", (), ("main",), {}, {1: 2}, {"a": []},
    set(), (None,), ("maybe", ["a"]), [None], [True], [1], [[None]], [{}], [("a", 1)], [""], ["A"], ["abcdefghi"],
    {"main": None}, {"main": ["b"]}, {None: []}, object(), int, len,
]

BAD_PROGRAMS = STRANGE + [[], {"main": ["a"]}, {"main": ["main"]}, {"main": [], "a": ["b"]}, {"a": []}, "main"]


def bad_names(program):
    """Values that are no functions of the program."""
    return STRANGE + [[], ["main"], ("main",), "zz", "mai", "mainn", "MAIN"]


def bad_words(program):
    """Values that are no words of functions of the program."""
    name = sorted(program)[0]
    return [
        None, True, 0, "", name, b"", (), (name,), {}, {name: name}, set(), {name}, ["zz"], [name, "zz"], ["zz", name],
        [""], [None], [1], [True], [[name]], [(name,)], [[]], [name, None], [{}], [name.upper()],
        # Longer ones are no better for their length.
        (name,) * 61, [name] * 61 + ["zz"], ["zz"] + [name] * 61, [name] * 30 + [None] + [name] * 30, name * 61,
    ]


def joined(left, right, most):
    return {ahead + behind for ahead in left for behind in right if len(ahead) + len(behind) <= most}


def words(body, most, whole=True):
    """All words of a body with at most so many names; with whole=False all parts of these and of longer ones."""
    found = {()}
    for item in body:
        found = joined(found, words_of_item(item, most, whole), most)
    return found


def words_of_item(item, most, whole):
    if isinstance(item, str):
        return ({(item,)} if whole else {(item,), ()}) if most else set() if whole else {()}
    kind, within = item
    if kind == "one":
        return set().union(*[words(body, most, whole) for body in within])
    once = words(within, most, whole) | {()}
    if kind == "maybe":
        return once
    found = {()}
    while True:
        more = joined(found, once, most)
        if more == found:
            return found
        found = more


def is_subword(part, word):
    rest = iter(word)
    return all(name in rest for name in part)


def call_counts(program, most):
    """A dict from each function to all numbers of calls, up to a limit, of a call of it that returns."""
    found = {name: set() for name in program}
    while True:
        more = {
            name: {1 + count for count in body_counts(found, program[name], most) if count < most}
            for name in program
        }
        if more == found:
            return found
        found = more


def body_counts(found, body, most):
    counts = {0}
    for item in body:
        more = item_counts(found, item, most)
        counts = {count + other for count in counts for other in more if count + other <= most}
    return counts


def item_counts(found, item, most):
    if isinstance(item, str):
        return found[item]
    if item[0] == "one":
        return set().union(*[body_counts(found, body, most) for body in item[1]])
    # For the least number of calls, loops need not be done more than once.
    return {0} | body_counts(found, item[1], most)


def items_in(body):
    """All items of a body, those within items included."""
    inner = [within for item in body if isinstance(item, tuple) for within in
             (item[1] if item[0] == "one" else [item[1]])]
    return body + [item for within in inner for item in items_in(within)]


def product_words(product, most):
    """All words of a product with at most so many names."""
    found = {()}
    for atom in product:
        if isinstance(atom, str):
            found = joined(found, {(), (atom,)}, most)
        else:
            found = joined(found, words([("loop", [("one", [[name] for name in atom] + [[]])])], most), most)
    return found


def products_words(products, most):
    return set().union(*[product_words(product, most) for product in products])


def text_of(product):
    return " ".join([atom if isinstance(atom, str) else "{" + " ".join(atom) + "}" for atom in product]) or "."


def names_of(atom):
    return {atom} if isinstance(atom, str) else set(atom)


def is_normal(products, most=7):
    """Whether products are in normal form [12]; words are compared up to a length."""
    texts = [text_of(product) for product in products]
    if texts != sorted(set(texts)):
        return False
    for product in products:
        for left, right in zip(product, product[1:]):
            if isinstance(right, tuple) and names_of(left) <= names_of(right):
                return False
            if isinstance(left, tuple) and names_of(right) <= names_of(left):
                return False
    found = [product_words(product, most) for product in products]
    return not any(
        one <= other for at, one in enumerate(found) for by, other in enumerate(found) if at != by
    )


def random_body(source, names, calls, level=1):
    """A body with at most so many calls, and the number of calls in it."""
    body, used = [], 0
    for _ in range(source.randint(0, 3)):
        if used >= calls:
            break
        kind = source.choice(["call", "call", "maybe", "loop", "one"]) if level < 4 else "call"
        if kind == "call":
            body.append(source.choice(names))
            used += 1
            continue
        many = source.randint(2, 3) if kind == "one" else 1
        bodies, empty = [], False
        for _ in range(many):
            inner, count = random_body(source, names, calls - used, level + 1)
            if inner == [] and (empty or kind != "one"):
                if used >= calls:
                    break
                inner, count = [source.choice(names)], 1
            empty = empty or inner == []
            used += count
            bodies.append(inner)
        if len(bodies) == many:
            body.append((kind, bodies if kind == "one" else bodies[0]))
    return body, used


def random_programs(seed, many, functions=("main", "a", "b"), judge=None):
    """So many programs from a seed, the same ones in each run; without a judge some are no programs."""
    source = random.Random(seed)
    found = []
    while len(found) < many:
        program = {name: random_body(source, list(functions), 5)[0] for name in functions}
        if judge is None or judge(program):
            found.append(program)
    return found


def random_product(source, names, atoms):
    found = []
    for _ in range(source.randint(0, atoms)):
        if source.random() < 0.5:
            found.append(source.choice(names))
        else:
            found.append(tuple(sorted(source.sample(names, source.randint(1, len(names))))))
    return found


def turned(program):
    """An equal program whose functions stand in the dict in the opposite order."""
    return {name: program[name] for name in reversed(list(program))}


# Values that are neither stacks nor lists of stacks nor runs, and numbers of no sample.
BAD_STACKS = [
    None, True, 0, "", "main", "a", b"main", [], ["main"], ["main", "a"], (), {}, {"main": 1}, set(), (None,), (1,), (True,),
    ("",), ("Main",), ("zz",), ("main", "zz"), ("zz", "main"), ("main", None), ("main", 1), ("main", ["a"]), ("main", ("a",)),
    ("main", {}), (["main"],), (("main",),), ("main",) * 9, ("main", "a") * 5, object(), int,
]


def bad_stack_lists(good):
    """Values that are no lists of stacks; good is a stack that may stand in such a list."""
    found = [
        None, True, False, 0, 1, "", "main", b"main", (), (good,), (good, good), {}, {0: good}, {good: good}, set(), {good},
        good, list(good), [[good]], [(good,)], object(), list, [good, [good]], iter([good]),
    ]
    for bad in BAD_STACKS:
        found += [[bad], [good, bad], [bad, good], [good] * 200 + [bad]]
    return found


def frozen(body):
    """A body as a tuple in which everything can be hashed."""
    return tuple(item if isinstance(item, str) else (item[0], tuple(map(frozen, inner_bodies(item)))) for item in body)


def inner_bodies(item):
    return item[1] if item[0] == "one" else [item[1]]


def can_be_left_out(item):
    return not isinstance(item, str) and (item[0] != "one" or any(can_end(body) for body in item[1]))


def can_end(rest):
    """Whether no further call is needed if these items are still to be done."""
    return all(can_be_left_out(item) for item in rest)


def moves(rest):
    """All pairs of a next call and the items that are still to be done behind it."""
    if not rest:
        return set()
    item, behind = rest[0], rest[1:]
    if isinstance(item, str):
        return {(item, behind)}
    again = (item,) if item[0] == "loop" else ()
    found = {(name, left + again + behind) for body in item[1] for name, left in moves(body)}
    return found | moves(behind) if can_be_left_out(item) else found


def rests_behind(body, word):
    """All that can still be to do of a body behind these calls."""
    rests = {frozen(body)}
    for name in word:
        rests = {left for rest in rests for callee, left in moves(rest) if callee == name}
    return rests


def told_by(value):
    """All calls of steps as lists [name, calls made, whether it has returned], and the stacks; None if no call is open
    where a step needs one. [7], but for the words of the functions."""
    calls, path, stacks = [], [], []
    for number, step in enumerate(value):
        if number and not path:
            return None
        if step == ("return",) and path:
            path.pop()[2] = True
        elif step == ("sample",) and 1 <= len(path) <= 8:
            stacks.append(tuple(call[0] for call in path))
        elif isinstance(step, tuple) and len(step) == 2 and step[0] == "call":
            if path:
                path[-1][1].append(step[1])
            elif step[1] != "main":
                return None
            path.append([step[1], [], False])
            calls.append(path[-1])
        else:
            return None
    return calls, stacks


def is_run(program, value):
    """Whether a list of steps is a run by the rules of [7], each call on its own."""
    told = told_by(value)
    if told is None or not all(isinstance(name, str) and name in program for name, _, _ in told[0]):
        return False
    for name, word, returned in told[0]:
        rests = rests_behind(program[name], word)
        if not (any(can_end(rest) for rest in rests) if returned else rests):
            return False
    return True


def frames_of(run):
    """For each sample step of a run a list with a number for each open call; different calls have different numbers."""
    path, found = [], []
    for number, step in enumerate(run):
        if step[0] == "call":
            path.append(number)
        elif step[0] == "return":
            path.pop()
        else:
            found.append(list(path))
    return found


def in_common(stack, other):
    """How many names two stacks have in common ahead of the first different one."""
    return next((at for at, pair in enumerate(zip(stack, other)) if pair[0] != pair[1]), min(len(stack), len(other)))


def rows_of_kept(program, samples):
    """All rows of numbers that tell how many calls can stay open between two neighbouring samples, one by one [34]."""
    most = [range(1, in_common(stack, other) + 1) for stack, other in zip(samples, samples[1:])]
    return [row for row in itertools.product(*most) if all_parts(program, samples, (0,) + row)]


def all_parts(program, samples, row):
    """Whether the calls that are shown, if so many stay open, are parts of the functions that make them."""
    path, calls = [], []
    for stack, kept in zip(samples, row):
        path = path[:kept]
        for name in stack[len(path):]:
            calls.append((name, []))
            if path:
                path[-1][1].append(name)
            path.append(calls[-1])
    return all(is_subword_of_some(program, name, tuple(word)) for name, word in calls)


def is_subword_of_some(program, name, word):
    """Whether a word is a part of a function: what can still be done behind it, with any calls in between."""
    rests = {frozen(program[name])}
    for wanted in word:
        rests = {left for rest in all_rests(rests) for callee, left in moves(rest) if callee == wanted}
    return bool(rests)


def all_rests(rests):
    """All that can still be to do behind any calls."""
    seen, waiting = set(rests), list(rests)
    while waiting:
        for _, left in moves(waiting.pop()):
            if left not in seen:
                seen.add(left)
                waiting.append(left)
    return seen


def can_show(program, root, stacks, deepest=6, without=None):
    """Whether one call of a function can show stacks, with no call of some function within: a search step by step
    over all that can be open."""
    places = {((root, frozen(program[root])),)}
    for stack in stacks:
        found = all_behind(program, places, deepest, without)
        places = {place for place in found if tuple(name for name, _ in place) == stack}
    return bool(places)


def all_behind(program, places, deepest, without=None):
    """All lists of open calls, with what each one has still to do, to which steps lead."""
    seen, waiting = set(places), list(places)
    while waiting:
        place = waiting.pop()
        name, rest = place[-1]
        found = [place[:-1]] if can_end(rest) and len(place) > 1 else []
        if len(place) < deepest:
            found += [
                place[:-1] + ((name, left), (callee, frozen(program[callee]))) for callee, left in moves(rest)
                if callee != without
            ]
        for new in found:
            if new not in seen:
                seen.add(new)
                waiting.append(new)
    return seen


def random_stacks(source, program, root, many, deepest=3):
    """So many stacks in which each call is one that the function around it calls, now and then also another one."""
    found = []
    for _ in range(many):
        stack = [root]
        while len(stack) < deepest and source.random() < 0.7:
            inner = sorted({item for item in items_in(program[stack[-1]]) if isinstance(item, str)})
            if source.random() < 0.03:
                inner = sorted(program)
            if not inner:
                break
            stack.append(source.choice(inner))
        found.append(tuple(stack))
    return found


def random_steps(source, program, name, level=1):
    """The steps of some call of a function, with samples in it; the call need not end."""
    yield ("call", name)
    yield from random_steps_of_body(source, program, program[name], level)
    yield ("return",)


def random_steps_of_body(source, program, body, level):
    for item in body:
        if level <= 8 and source.random() < 0.3:
            yield ("sample",)
        if isinstance(item, str):
            yield from random_steps(source, program, item, level + 1)
            continue
        rounds = {"one": 1, "maybe": source.randint(0, 1), "loop": source.randint(0, 2)}[item[0]]
        for _ in range(rounds):
            yield from random_steps_of_body(source, program, source.choice(inner_bodies(item)), level)
    if level <= 8 and source.random() < 0.3:
        yield ("sample",)


def random_run(source, program, many):
    """A run with at most so many steps."""
    return list(itertools.islice(random_steps(source, program, "main"), many))


def unchanged(test, call, *values):
    """The result of a call; it must leave its arguments as they are and must give a new result each time."""
    before = copy.deepcopy(values)
    found = call(*values)
    test.assertEqual(values, before)
    test.assertEqual(call(*before), found)
    if isinstance(found, (list, dict)):
        kept = copy.deepcopy(found)
        spoil(found)
        test.assertEqual(values, before)
        test.assertEqual(call(*values), kept)
        found = kept
    return found


def spoil(value):
    """Change a result and all that can be changed within it."""
    if isinstance(value, list):
        for inner in value:
            spoil(inner)
        value.append("spoiled")
    elif isinstance(value, dict):
        for inner in value.values():
            spoil(inner)
        value["spoiled"] = []
    elif isinstance(value, tuple):
        for inner in value:
            spoil(inner)
