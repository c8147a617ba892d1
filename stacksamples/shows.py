"""Runs: which samples some run shows, such runs, and what a run shows and calls."""

from stacksamples.blocks import guides_of, tracks_of
from stacksamples.bodies import net_of, states_after, word_around
from stacksamples.conflicts import check_shown
from stacksamples.errors import InvalidRun
from stacksamples.programs import MOST_NAMES_IN_STACK, check_program, check_samples, is_function, quick_words

RETURN = ("return",)
SAMPLE = ("sample",)


def shows(program, samples):
    """Return whether some run of a program shows samples."""
    check_program(program)
    check_samples(program, samples)
    return tracks_of(guides_of(program), samples)[-1] is not None


def open_calls(rows):
    """Return the list of the calls that are open at the last sample, the outermost one first.

    A row is a tuple (stack, kept) for each sample, with the number of calls in it that were
    open at the sample before, too. A call is a tuple of the name and the list of what happens
    in it: calls, and None for each sample while it is the innermost call.
    """
    outermost = ("main", [])
    path = [outermost]
    for stack, kept in rows:
        path = path[:kept] if kept else [outermost]
        deeper = stack[len(path):]
        for name in deeper:
            inner = (name, [])
            path[-1][1].append(inner)
            path.append(inner)
        path[-1][1].append(None)
    return path


def quick_steps(words):
    """Return a dict from each function to the steps of a call of it in which each function calls its word."""
    found = {}
    while len(found) < len(words):
        for name in words:
            if name not in found and all([callee in found for callee in words[name]]):
                inner = [step for callee in words[name] for step in found[callee]]
                found[name] = [("call", name)] + inner + [RETURN]
    return found


def steps_within(nets, quick, net, events):
    """Return the steps within a call with a net, with further calls where the net needs them."""
    word = word_around(net, [event[0] for event in events if event is not None])
    steps = []
    at = 0
    for callee in word:
        while at < len(events) and events[at] is None:
            steps.append(SAMPLE)
            at = at + 1
        if at < len(events) and events[at][0] == callee:
            steps.extend(_steps_of(nets, quick, events[at]))
            at = at + 1
        else:
            steps.extend(quick[callee])
    # All calls are made now, so only samples are left.
    return steps + [SAMPLE] * (len(events) - at)


def _steps_of(nets, quick, call):
    """Return the steps of a call that returns."""
    name, events = call
    return [("call", name)] + steps_within(nets, quick, nets[name], events) + [RETURN]


def run_along(program, tracks):
    """Return a run in which main returns and in which samples are shown as their tracks tell."""
    nets = {name: net_of(program[name]) for name in program}
    quick = quick_steps(quick_words(program))
    return _steps_of(nets, quick, open_calls([(stack, kept) for stack, _, kept in tracks])[0])


def run_for(program, samples):
    """Return a run that shows samples and in which main returns."""
    check_shown(program, samples)
    return run_along(program, tracks_of(guides_of(program), samples)[1:])


def _is_call(program, step):
    """Return whether any value is a step that calls a function of a program."""
    return isinstance(step, tuple) and len(step) == 2 and step[0] == "call" and is_function(program, step[1])


def _states_behind_call(nets, path, name):
    """Return the states of the innermost open call behind one more call, an empty list if it cannot make it."""
    caller, states = path[-1]
    return states_after(nets[caller], states, name)


def _can_return(nets, path):
    """Return whether the innermost open call can return."""
    name, states = path[-1]
    return any([state in nets[name][2] for state in states])


def _shown_and_called(program, value):
    """Return the stacks that a run shows and the names of its calls, None if a value is not a run."""
    if not isinstance(value, list):
        return None
    nets = {name: net_of(program[name]) for name in program}
    path = []
    shown = []
    called = []
    for step in value:
        if not path:
            # Only the call of main can stand here, and nothing behind its return.
            if called or step != ("call", "main"):
                return None
            path.append(("main", [0]))
            called.append("main")
        elif _is_call(program, step):
            states = _states_behind_call(nets, path, step[1])
            if not states:
                return None
            path[-1] = (path[-1][0], states)
            path.append((step[1], [0]))
            called.append(step[1])
        elif step == RETURN and _can_return(nets, path):
            path.pop()
        elif step == SAMPLE and len(path) <= MOST_NAMES_IN_STACK:
            shown.append(tuple([name for name, _ in path]))
        else:
            return None
    return shown, called


def is_run(program, value):
    """Return whether any value is a run of a program."""
    check_program(program)
    return _shown_and_called(program, value) is not None


def _check_run(program, run):
    """Raise InvalidRun unless a value is a run of a program; return the stacks that it shows and its calls."""
    found = _shown_and_called(program, run)
    if found is None:
        raise InvalidRun("not a run of the program")
    return found


def samples_of(program, run):
    """Return the list of the stacks that the sample steps of a run show."""
    check_program(program)
    return _check_run(program, run)[0]


def calls_of(program, run):
    """Return a dict from each function that a run calls, in ascending order, to the number of its calls."""
    check_program(program)
    called = _check_run(program, run)[1]
    return {name: called.count(name) for name in sorted(set(called))}
