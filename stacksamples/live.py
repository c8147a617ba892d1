"""Live profiles: samples of a program that are taken one behind the other."""

from stacksamples.bodies import copied_body
from stacksamples.conflicts import check_shown
from stacksamples.errors import InvalidIndex, InvalidStack, NothingToUndo, TooLarge
from stacksamples.nexts import next_among
from stacksamples.programs import MOST_NAMES_IN_STACK, MOST_SAMPLES, check_program, is_integer, is_stack


class Profile:
    """Samples of a program that are shown, and those ahead of each call that can be reverted."""

    def __init__(self, program):
        check_program(program)
        # The program stays the caller's own: it may change there without changing here.
        self._program = {name: copied_body(program[name]) for name in program}
        # None of these lists is ever changed, so forks and earlier states may share them.
        self._samples = []
        self._earlier = []

    def add(self, *stacks):
        """Add samples behind the others and return the number of all."""
        for stack in stacks:
            if not is_stack(self._program, stack) or stack[0] != "main":
                raise InvalidStack("not a stack of functions of the program that begins with main")
        samples = self._samples + list(stacks)
        if len(samples) > MOST_SAMPLES:
            raise TooLarge(MOST_SAMPLES)
        check_shown(self._program, samples)
        if stacks:
            self._change_to(samples)
        return len(samples)

    def drop(self, number):
        """Take the sample with a number out and return it."""
        if not is_integer(number) or not 0 <= number < len(self._samples):
            raise InvalidIndex("not the number of a sample")
        dropped = self._samples[number]
        self._change_to(self._samples[:number] + self._samples[number + 1:])
        return dropped

    def _change_to(self, samples):
        """Hold other samples, in a way that can be reverted."""
        self._earlier.append(self._samples)
        self._samples = samples

    def undo(self):
        """Revert the last call of add or drop that changed something and has not been reverted."""
        if not self._earlier:
            raise NothingToUndo("no call is left that can be reverted")
        self._samples = self._earlier.pop()

    def fork(self):
        """Return an independent profile with the same samples, in which the same calls can be reverted."""
        other = Profile(self._program)
        other._samples = self._samples
        other._earlier = list(self._earlier)
        return other

    @classmethod
    def of(cls, program, samples):
        """Return a profile with some samples, in which no call can be reverted."""
        profile = cls(program)
        check_shown(program, samples)
        profile._samples = list(samples)
        return profile

    @property
    def samples(self):
        """The list of the samples."""
        return list(self._samples)

    @property
    def depth_now(self):
        """The number of names of the last sample, 0 without samples."""
        return len(self._samples[-1]) if self._samples else 0

    @property
    def next_names(self):
        """The ascending list of the names with which the last sample can go on as the next sample."""
        if not self._samples:
            return ["main"]
        last = self._samples[-1]
        if len(last) == MOST_NAMES_IN_STACK:
            return []
        stacks = [last + (name,) for name in sorted(self._program)]
        return [stack[-1] for stack in next_among(self._program, self._samples, stacks)]

    def __len__(self):
        return len(self._samples)

    def __eq__(self, other):
        return isinstance(other, Profile) and self._program == other._program and self._samples == other._samples
