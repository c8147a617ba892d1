"""Blocks: which stacks one call can show, and the regions that they have.

Guides are a dict from each function to products whose words are its parts. The marks of a
call are a tuple with one number for each product of its function: the place of the atom
that stands for its last call so far, as early as it can be, -1 without calls, and None
if the calls so far are no word of the product.

A track tells what one call has shown so far. It is a tuple (stack, frames, kept): the last
stack, a tuple (products, marks) for each call in it, and how many of these calls were open
at the stack before, too. With each call that goes on as long as it can, there are as few
as possible.
"""

from stacksamples.closures import is_atom_within, normal_products
from stacksamples.programs import MOST_NAMES_IN_STACK, check_program, check_stacks

# The track of a call that has shown nothing so far.
NOTHING = ((), (), 0)


def guides_of(program):
    """Return the guides of a program."""
    return {name: normal_products(program[name]) for name in program}


def turned_products(products):
    """Return the products with which a track goes from the last call to the first one."""
    return [product[::-1] for product in products]


def _mark_behind(product, mark, name):
    """Return the mark of a product behind one more call, None if there is none."""
    if mark is None:
        return None
    # A tuple stands for any number of calls, a name for one of them.
    is_tuple = mark >= 0 and isinstance(product[mark], tuple)
    for place in range(mark if is_tuple else mark + 1, len(product)):
        if is_atom_within(name, product[place]):
            return place
    return None


def _marks_behind(products, marks, name):
    """Return the marks of a call behind one more call within it, None if it cannot make this one."""
    found = tuple([_mark_behind(product, mark, name) for product, mark in zip(products, marks)])
    return found if any([mark is not None for mark in found]) else None


def _frames_alone(guides, stack):
    """Return the frames of the calls in a stack that are all new, None if one of them cannot make the next one."""
    found = []
    for depth in range(len(stack)):
        products = guides[stack[depth]]
        marks = (-1,) * len(products)
        if depth + 1 < len(stack):
            marks = _marks_behind(products, marks, stack[depth + 1])
        if marks is None:
            return None
        found.append((products, marks))
    return tuple(found)


def _same_names(stack, other):
    """Return how many names two stacks have in common ahead of the first different one."""
    many = 0
    for name, other_name in zip(stack, other):
        if name != other_name:
            return many
        many = many + 1
    return many


def next_track(guides, track, stack, most=MOST_NAMES_IN_STACK):
    """Return the track behind one more stack, None if the call cannot show it, too.

    At most so many calls stay open from the stack before to this one.
    """
    shown, frames, _ = track
    if not shown:
        alone = _frames_alone(guides, stack)
        return None if alone is None else (stack, alone, 0)
    same = min(_same_names(shown, stack), most)
    if same == len(stack):
        return stack, frames[:same], same
    # The deeper the first new call is, the fewer of the calls around it end.
    for depth in reversed(range(same)):
        products, marks = frames[depth]
        behind = _marks_behind(products, marks, stack[depth + 1])
        if behind is not None:
            alone = _frames_alone(guides, stack[depth + 1:])
            # What one of these calls cannot make, it cannot make either if more calls are new.
            return None if alone is None else (stack, frames[:depth] + ((products, behind),) + alone, depth + 1)
    return None


def tracks_of(guides, stacks, first=NOTHING):
    """Return a track and those behind one more stack, two and more, None where one call cannot show these, too."""
    found = [first]
    for stack in stacks:
        found.append(None if found[-1] is None else next_track(guides, found[-1], stack))
    return found


def turned_tracks(guides, stacks):
    """Return the tracks from behind of all stacks, of all but the first 1, 2 and more, None where they do not fit."""
    from_behind = {name: turned_products(guides[name]) for name in guides}
    return tracks_of(from_behind, stacks[::-1])[::-1]


def _have_place(products, marks, turned_marks, is_one):
    """Return whether the calls of marks and then those of marks from behind are a word of products.

    If is_one holds, the last call of the former and the first one of the latter are the same.
    """
    for product, mark, turned_mark in zip(products, marks, turned_marks):
        if mark is None or turned_mark is None:
            continue
        first = len(product) - 1 - turned_mark
        if mark < first or mark == first and (is_one or isinstance(product[mark], tuple)):
            return True
    return False


def can_follow(track, turned_track):
    """Return whether one call can show the stacks of a track and then those of a track from behind."""
    stack, frames, _ = track
    other, turned_frames, _ = turned_track
    if not stack or not other:
        return True
    is_one = False
    # From the innermost calls outwards: if two calls can be one, the call around them makes one call less.
    for depth in reversed(range(_same_names(stack, other))):
        products, marks = frames[depth]
        is_one = _have_place(products, marks, turned_frames[depth][1], is_one)
    return is_one


def _longest_blocks(program, stacks):
    """Return the longest blocks of the stacks ahead of the first one that alone does not fit."""
    guides = guides_of(program)
    found = []
    track = NOTHING
    for stack in stacks:
        longer = next_track(guides, track, stack)
        if longer is None or not found:
            found.append([])
            longer = next_track(guides, NOTHING, stack)
        if longer is None:
            return found[:-1]
        found[-1].append(stack)
        track = longer
    return found


def regions(program, stacks):
    """Return the list of tuples (name, first, last) for all regions in order."""
    check_program(program)
    check_stacks(program, stacks)
    found = []
    for number, stack in enumerate(stacks):
        if len(stack) == 1:
            continue
        first = number
        if found and found[-1][0] == stack[1] and found[-1][2] == number - 1:
            first = found.pop()[1]
        found.append((stack[1], first, number))
    return found


def fits(program, stacks):
    """Return whether stacks fit: whether one call can show them."""
    check_program(program)
    check_stacks(program, stacks)
    return tracks_of(guides_of(program), stacks)[-1] is not None


def longest_fit(program, stacks):
    """Return how many of the first stacks fit."""
    check_program(program)
    check_stacks(program, stacks)
    tracks = tracks_of(guides_of(program), stacks)
    return len([track for track in tracks if track is not None]) - 1


def fewest_blocks(program, stacks):
    """Return the least number of blocks, None if a stack alone does not fit."""
    check_program(program)
    check_stacks(program, stacks)
    blocks = _longest_blocks(program, stacks)
    # Blocks end early where a stack alone does not fit.
    return len(blocks) if sum([len(block) for block in blocks]) == len(stacks) else None


def walk_blocks(program, stacks):
    """Yield the longest blocks as lists of stacks, up to the first stack that alone does not fit."""
    check_program(program)
    check_stacks(program, stacks)
    # All blocks are found ahead of the first one, so that later changes of the arguments do not matter.
    blocks = _longest_blocks(program, stacks)
    for block in blocks:
        yield block
