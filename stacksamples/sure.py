"""Sure calls: the functions that each run which shows samples called, and runs without a call of one of them.

In a run that ends with its last sample step, the calls that are open there have made starts,
and all other calls have returned, none of them a call of the function that is left out. So
the tracks go from the last sample to the first one: the calls in the last sample are the open
ones, and each call that is new on this way is one that returns.
"""

from stacksamples.blocks import tracks_of, turned_products
from stacksamples.bodies import bodies_ahead, limited_body, net_of, word_around
from stacksamples.closures import normal_products
from stacksamples.conflicts import check_shown
from stacksamples.programs import check_name, check_program, check_samples
from stacksamples.shows import SAMPLE, open_calls, quick_steps, steps_within


def _words_without(program, name):
    """Return a dict from each function that can return without a call of this one to a word that it calls then."""
    words = {}
    for _ in program:
        # Each word names functions that have a word already, so calls that call these words return.
        bodies = {caller: limited_body(program[caller], words) for caller in program if caller != name}
        for caller in bodies:
            if caller not in words and bodies[caller] is not None:
                words[caller] = word_around(net_of(bodies[caller]), [])
    return words


def _open_bodies(program, names, stack):
    """Return a body for each call in the last stack, None if one of them cannot be open there.

    It describes what this call called, of some names only, besides the next call in the stack.
    """
    found = []
    for depth in range(len(stack)):
        body = program[stack[depth]]
        if depth + 1 < len(stack):
            bodies = bodies_ahead(body, names, [stack[depth + 1]])
        else:
            # A start is what is called ahead of some call, or a whole word.
            whole = limited_body(body, names)
            bodies = bodies_ahead(body, names, list(program)) + ([] if whole is None else [whole])
        if not bodies:
            return None
        found.append([("one", bodies)])
    return found


def _frame_of(body):
    """Return the frame of a call that is open at the last sample, as it is seen from behind."""
    products = turned_products(normal_products(body))
    return products, (-1,) * len(products)


def _rows_without(bodies, opened, samples):
    """Return a tuple (stack, kept) for each sample, None if the samples cannot be shown so.

    The bodies are those of the functions, None where one cannot return. The opened ones are
    those of the calls in the last sample.
    """
    guides = {name: [] if bodies[name] is None else turned_products(normal_products(bodies[name])) for name in bodies}
    last = (samples[-1], tuple([_frame_of(body) for body in opened]), 0)
    tracks = tracks_of(guides, samples[:-1][::-1], last)
    if tracks[-1] is None:
        return None
    # From behind, a track tells how many of its calls are open at the next sample, too.
    kept = [track[2] for track in tracks[1:]]
    return list(zip(samples, [0] + kept[::-1]))


def _plan_without(program, samples, name):
    """Return (words, bodies, opened, rows), which a run without calls of a function follows, None if none does."""
    if name in samples[-1]:
        return None
    words = _words_without(program, name)
    opened = _open_bodies(program, words, samples[-1])
    if opened is None:
        return None
    bodies = {caller: limited_body(program[caller], words) if caller in words else None for caller in program}
    rows = _rows_without(bodies, opened, samples)
    return None if rows is None else (words, bodies, opened, rows)


def surely_called(program, samples):
    """Return the ascending list of the functions that each run which shows samples called ahead of the last one."""
    check_shown(program, samples)
    if not samples:
        return []
    return [name for name in sorted(program) if _plan_without(program, samples, name) is None]


def run_without(program, samples, name):
    """Return a run that shows samples, ends with the last one and has no call of a function, None if there is none."""
    check_program(program)
    check_samples(program, samples)
    check_name(program, name)
    check_shown(program, samples)
    if not samples:
        return []
    plan = _plan_without(program, samples, name)
    if plan is None:
        return None
    words, bodies, opened, rows = plan
    nets = {caller: net_of(bodies[caller]) for caller in words}
    quick = quick_steps(words)
    steps = []
    for call, body in zip(open_calls(rows), opened):
        # The last event of each of these calls is the next call, and of the innermost one the last sample.
        steps.append(("call", call[0]))
        steps.extend(steps_within(nets, quick, net_of(body), call[1][:-1]))
    return steps + [SAMPLE]
