"""Same calls: whether frames of two samples are one activation, with runs in which they are one, or two.

The tracks of the samples keep each call open as long as it can be. Two frames are one activation
if their calls stay open all along between the samples, and two if a new call is forced somewhere.
Where a call has to be new although it need not be, the innermost one that can be is the best.
"""

from stacksamples.blocks import can_follow, guides_of, next_track, tracks_of, turned_tracks
from stacksamples.conflicts import check_shown
from stacksamples.errors import InvalidDepth, InvalidIndex
from stacksamples.programs import check_program, check_samples, is_integer
from stacksamples.shows import run_along


def _check_frames(program, samples, first, second, depth):
    """Raise the error that is due unless these are two frames of samples that are shown."""
    check_program(program)
    check_samples(program, samples)
    for number in [first, second]:
        if not is_integer(number) or not 0 <= number < len(samples):
            raise InvalidIndex("not the number of a sample")
    if first >= second:
        raise InvalidIndex("the first sample does not stand ahead of the second one")
    if not is_integer(depth) or not 0 <= depth < min(len(samples[first]), len(samples[second])):
        raise InvalidDepth("not the number of a frame of both samples")
    check_shown(program, samples)


def _track_kept(guides, track, stacks, depth):
    """Return the track behind more stacks, None if the frame with this depth cannot stay open until there."""
    for stack in stacks:
        track = next_track(guides, track, stack)
        if track is None or track[2] <= depth:
            return None
    return track


def _tracks_of_one(program, samples, first, second, depth):
    """Return tracks of all samples in which two frames are one activation, None if there are none."""
    guides = guides_of(program)
    tracks = tracks_of(guides, samples)
    rest = turned_tracks(guides, samples[second + 1:])[0]
    # The later the activation begins, the more can still happen in it.
    for start in reversed(range(first + 1)):
        track = next_track(guides, tracks[start], samples[start], depth)
        if track is None:
            continue
        last = _track_kept(guides, track, samples[start + 1:second + 1], depth)
        if last is None:
            return None
        if can_follow(last, rest):
            return tracks[1:start + 1] + tracks_of(guides, samples[start + 1:], track)
    return None


def _tracks_of_two(program, samples, first, second, depth):
    """Return tracks of all samples in which two frames are two activations, None if there are none."""
    guides = guides_of(program)
    tracks = tracks_of(guides, samples)
    tracks_behind = turned_tracks(guides, samples)
    for number in range(first + 1, second + 1):
        track = next_track(guides, tracks[number], samples[number], depth)
        if track is not None and can_follow(track, tracks_behind[number + 1]):
            return tracks[1:number + 1] + tracks_of(guides, samples[number + 1:], track)
    return None


def same_call(program, samples, first, second, depth):
    """Return whether two frames of samples are one activation: "surely", "possibly" or "never"."""
    _check_frames(program, samples, first, second, depth)
    if _tracks_of_one(program, samples, first, second, depth) is None:
        return "never"
    return "surely" if _tracks_of_two(program, samples, first, second, depth) is None else "possibly"


def same_run(program, samples, first, second, depth):
    """Return a run that shows samples and in which two frames are one activation, None if there is none."""
    _check_frames(program, samples, first, second, depth)
    tracks = _tracks_of_one(program, samples, first, second, depth)
    return None if tracks is None else run_along(program, tracks)


def other_run(program, samples, first, second, depth):
    """Return a run that shows samples and in which two frames are two activations, None if there is none."""
    _check_frames(program, samples, first, second, depth)
    tracks = _tracks_of_two(program, samples, first, second, depth)
    return None if tracks is None else run_along(program, tracks)
