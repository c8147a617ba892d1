"""Conflicts: smallest sets of samples that contradict one another."""

from stacksamples.blocks import NOTHING, can_follow, guides_of, next_track, tracks_of, turned_tracks
from stacksamples.errors import NotShown, TooLarge
from stacksamples.programs import check_program, check_samples, is_integer

MOST_SAMPLES_LEFT_OUT = 9


def _are_shown(track, turned_track):
    """Return whether the samples of a track and then those of a track from behind are shown."""
    return track is not None and turned_track is not None and can_follow(track, turned_track)


def conflict(program, samples):
    """Return an ascending list of numbers of samples that are a conflict, None if all are shown."""
    check_program(program)
    check_samples(program, samples)
    guides = guides_of(program)
    tracks = tracks_of(guides, samples)
    if tracks[-1] is not None:
        return None
    # The samples up to the first one that is not shown together with those ahead of it.
    first_ones = samples[:tracks.index(None)]
    tracks_behind = turned_tracks(guides, first_ones)
    found = []
    track = NOTHING
    for number in range(len(first_ones)):
        # A sample belongs to the conflict if those found so far and all later ones are shown without it.
        if _are_shown(track, tracks_behind[number + 1]):
            found.append(number)
            track = next_track(guides, track, first_ones[number])
    return found


def check_shown(program, samples):
    """Raise NotShown unless samples are shown, and ahead of that the errors of conflict."""
    numbers = conflict(program, samples)
    if numbers is not None:
        raise NotShown(numbers)


def _are_numbers(value, many):
    """Return whether any value is an ascending list of numbers of so many samples."""
    if not isinstance(value, list):
        return False
    if not all([is_integer(number) for number in value]):
        return False
    if not all([0 <= number < many for number in value]):
        return False
    return all([value[at] < value[at + 1] for at in range(len(value) - 1)])


def is_conflict(program, samples, value):
    """Return whether any value is a conflict."""
    check_program(program)
    check_samples(program, samples)
    if not _are_numbers(value, len(samples)):
        return False
    guides = guides_of(program)
    chosen = [samples[number] for number in value]
    tracks = tracks_of(guides, chosen)
    if tracks[-1] is not None:
        return False
    tracks_behind = turned_tracks(guides, chosen)
    return all([_are_shown(tracks[at], tracks_behind[at + 1]) for at in range(len(chosen))])


def _most_shown(program, samples):
    """Return the ascending list of the numbers of as many samples as possible that are shown together."""
    check_program(program)
    check_samples(program, samples)
    if len(samples) > MOST_SAMPLES_LEFT_OUT:
        raise TooLarge(MOST_SAMPLES_LEFT_OUT)
    guides = guides_of(program)
    rows = [([], NOTHING)]
    for number in range(len(samples)):
        longer = [(numbers + [number], next_track(guides, track, samples[number])) for numbers, track in rows]
        rows = rows + [(numbers, track) for numbers, track in longer if track is not None]
    best = []
    for numbers, _ in rows:
        if len(numbers) > len(best):
            best = numbers
    return best


def fewest_left_out(program, samples):
    """Return the least number of samples that must be left out so that the other ones are shown."""
    rest = _most_shown(program, samples)
    return len(samples) - len(rest)


def shown_rest(program, samples):
    """Return the ascending list of the numbers of as many samples as possible that are shown together."""
    return _most_shown(program, samples)
