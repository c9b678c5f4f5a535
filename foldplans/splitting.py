"""Blocks that are held in several sums, so that no expression has too many brackets open."""

from foldplans.codes import MOST_OPEN, PLUS
from foldplans.shapes import halves, most_open


def _deep_block(turns):
    """The first state and block whose contents have too many brackets open somewhere, or None."""
    found = None
    for row in turns:
        for goal, contents in row:
            deep = [(goal, at) for at, shape in enumerate(contents) if most_open(shape) > MOST_OPEN]
            if deep and (found is None or deep[0] < found):
                found = deep[0]
    return found


def _with_two(shape, block):
    """The shape with two blocks in place of one; the later ones move up."""
    if shape is None:
        return None
    found = []
    for step in shape:
        if step == block:
            found.extend([block, block + 1, PLUS])
        else:
            found.append(step + 1 if step > block else step)
    return tuple(found)


def _contents_with_two(contents, block):
    """The contents with both sides of one of them instead of it."""
    return contents[:block] + list(halves(contents[block])) + contents[block + 1:]


def split_up(turns, ends):
    """The turns and the ends without contents that have too many brackets open, under `trees`.

    `turns[state][tag]` is a tuple of the next state and the list of its contents.
    """
    # What a block holds is split only if it comes into it with too many brackets. A loop that was read
    # holds both sides in sums of their own then, so each of its contents has two sides there.
    deep = _deep_block(turns)
    while deep is not None:
        state, block = deep
        later = []
        for at, row in enumerate(turns):
            told = []
            for goal, contents in row:
                inner = [_with_two(shape, block) for shape in contents] if at == state else contents
                told.append((goal, _contents_with_two(inner, block) if goal == state else inner))
            later.append(told)
        turns = later
        ends = [_with_two(end, block) if at == state else end for at, end in enumerate(ends)]
        deep = _deep_block(turns)
    return turns, ends
