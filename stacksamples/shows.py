"""Runs: which samples some run shows, such runs, and what a run shows and calls."""

from stacksamples.blocks import guides_of, tracks_of
from stacksamples.bodies import net_of, states_after, word_around
from stacksamples.conflicts import check_shown
from stacksamples.errors import InvalidRun
from stacksamples.programs import MOST_NAMES_IN_STACK, check_program, check_samples, is_function, quick_words

RETURN = ("return",)
SAMPLE = ("sample",)


def shows(program, samples):
    """Return whether some run of a program shows samples."""
    check_program(program)
    check_samples(program, samples)
    return tracks_of(guides_of(program), samples)[-1] is not None


def _call_of(tracks):
    """Return the call of main of which tracks tell.

    A call is a tuple of the name and the list of what happens in it: calls, and None for
    each sample while it is the innermost call.
    """
    outermost = ("main", [])
    path = [outermost]
    for stack, _, kept in tracks:
        path = path[:kept] if kept else [outermost]
        deeper = stack[len(path):]
        for name in deeper:
            inner = (name, [])
            path[-1][1].append(inner)
            path.append(inner)
        path[-1][1].append(None)
    return outermost


def _quick_steps(words, name):
    """Return the steps of a shortest call of a function."""
    steps = [("call", name)]
    for callee in words[name]:
        steps.extend(_quick_steps(words, callee))
    steps.append(RETURN)
    return steps


def _steps_of(nets, quick, call):
    """Return the steps of a call that returns, with further calls where its function needs them."""
    name, events = call
    word = word_around(nets[name], [event[0] for event in events if event is not None])
    steps = [("call", name)]
    at = 0
    for callee in word:
        while at < len(events) and events[at] is None:
            steps.append(SAMPLE)
            at = at + 1
        if at < len(events) and events[at][0] == callee:
            steps.extend(_steps_of(nets, quick, events[at]))
            at = at + 1
        else:
            steps.extend(quick[callee])
    # All calls are made now, so only samples are left.
    steps.extend([SAMPLE] * (len(events) - at))
    steps.append(RETURN)
    return steps


def run_for(program, samples):
    """Return a run that shows samples and in which main returns."""
    check_shown(program, samples)
    nets = {name: net_of(program[name]) for name in program}
    words = quick_words(program)
    quick = {name: _quick_steps(words, name) for name in program}
    tracks = tracks_of(guides_of(program), samples)
    return _steps_of(nets, quick, _call_of(tracks[1:]))


def _is_call(program, step):
    """Return whether any value is a step that calls a function of a program."""
    return isinstance(step, tuple) and len(step) == 2 and step[0] == "call" and is_function(program, step[1])


def _states_behind_call(nets, path, name):
    """Return the states of the innermost open call behind one more call, an empty list if it cannot make it."""
    caller, states = path[-1]
    return states_after(nets[caller], states, name)


def _can_return(nets, path):
    """Return whether the innermost open call can return."""
    name, states = path[-1]
    return any([state in nets[name][2] for state in states])


def _shown_and_called(program, value):
    """Return the stacks that a run shows and the names of its calls, None if a value is not a run."""
    if not isinstance(value, list):
        return None
    nets = {name: net_of(program[name]) for name in program}
    path = []
    shown = []
    called = []
    for step in value:
        if not path:
            # Only the call of main can stand here, and nothing behind its return.
            if called or step != ("call", "main"):
                return None
            path.append(("main", [0]))
            called.append("main")
        elif _is_call(program, step):
            states = _states_behind_call(nets, path, step[1])
            if not states:
                return None
            path[-1] = (path[-1][0], states)
            path.append((step[1], [0]))
            called.append(step[1])
        elif step == RETURN and _can_return(nets, path):
            path.pop()
        elif step == SAMPLE and len(path) <= MOST_NAMES_IN_STACK:
            shown.append(tuple([name for name, _ in path]))
        else:
            return None
    return shown, called


def is_run(program, value):
    """Return whether any value is a run of a program."""
    check_program(program)
    return _shown_and_called(program, value) is not None


def _check_run(program, run):
    """Raise InvalidRun unless a value is a run of a program; return the stacks that it shows and its calls."""
    found = _shown_and_called(program, run)
    if found is None:
        raise InvalidRun("not a run of the program")
    return found


def samples_of(program, run):
    """Return the list of the stacks that the sample steps of a run show."""
    check_program(program)
    return _check_run(program, run)[0]


def calls_of(program, run):
    """Return a dict from each function that a run calls, in ascending order, to the number of its calls."""
    check_program(program)
    called = _check_run(program, run)[1]
    return {name: called.count(name) for name in sorted(set(called))}
