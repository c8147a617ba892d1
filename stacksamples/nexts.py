"""Next samples: which stacks can follow samples, and up to where samples are shown."""

from stacksamples.blocks import guides_of, next_track, tracks_of
from stacksamples.conflicts import check_shown
from stacksamples.errors import InvalidDepth
from stacksamples.programs import check_program, check_samples, is_integer

MOST_DEPTH = 3


def next_among(program, samples, stacks):
    """Return those of some stacks that can be the next sample behind samples that are shown."""
    guides = guides_of(program)
    track = tracks_of(guides, samples)[-1]
    return [stack for stack in stacks if next_track(guides, track, stack) is not None]


def _stacks_with(program, depth):
    """Return the list of all stacks that begin with main and have at most so many names."""
    found = [("main",)]
    longest = found
    for _ in range(depth - 1):
        longest = [stack + (name,) for stack in longest for name in program]
        found = found + longest
    return found


def next_stacks(program, samples, depth):
    """Return the ascending list of the stacks with at most so many names that can be the next sample."""
    check_program(program)
    check_samples(program, samples)
    if not is_integer(depth) or not 1 <= depth <= MOST_DEPTH:
        raise InvalidDepth("not an integer from 1 to 3")
    check_shown(program, samples)
    return next_among(program, samples, sorted(_stacks_with(program, depth)))


def first_unshown(program, samples):
    """Return the number of the first sample such that the samples up to it are not shown, None if all are shown."""
    check_program(program)
    check_samples(program, samples)
    tracks = tracks_of(guides_of(program), samples)
    return tracks.index(None) - 1 if None in tracks else None
