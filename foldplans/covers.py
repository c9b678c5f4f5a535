"""Whether the blocks of an entry of a matching cover two expressions."""

from foldplans.codes import ITEM, PLUS, sums_in
from foldplans.shapes import shaped


def become(turn, code):
    """What a code over sums becomes behind an `on` line; None if one of its sums becomes nothing."""
    changes = {place: told for place, told in turn.changes}
    found = ()
    for step in code:
        if step == PLUS:
            found = found + (PLUS,)
        elif step in changes:
            if changes[step] is None:
                return None
            found = found + changes[step]
        elif step in turn.used:
            return None
        else:
            found = found + (step,)
    return found


def _by_class(sides, shape):
    """The shape over blocks for one under `bags`, or None."""
    owners = {step: at for at, side in enumerate(sides) for step in side}
    if any([step != ITEM and step not in owners for step in shape]):
        return None
    used = list({owners[step]: True for step in shape if step != ITEM})
    if any([step not in shape for at in used for step in sides[at]]):
        return None
    return used + [step for step in shape if step == ITEM]


def _by_segments(sides, shape):
    """The shape over blocks for one under another kind, or None."""
    # A part of a shape stands in it as one segment, the sums ahead of the + between them.
    firsts = {side[0]: at for at, side in enumerate(sides)}
    found = []
    at = 0
    while at < len(shape):
        step = shape[at]
        if step in (ITEM, PLUS):
            found.append(step)
            at += 1
        elif step in firsts and shape[at:at + len(sides[firsts[step]])] == sides[firsts[step]]:
            found.append(firsts[step])
            at += len(sides[firsts[step]])
        else:
            return None
    return found


def over_blocks(kind, codes, code):
    """The shape of a code over the item and the numbers of the blocks with these codes, or None."""
    sides = [shaped(kind, side) for side in codes]
    shape = shaped(kind, code)
    found = _by_class(sides, shape) if kind == "bags" else _by_segments(sides, shape)
    return None if found is None else shaped(kind, found)


def have_sum_twice(codes):
    """Whether a sum occurs twice in the codes."""
    places = [place for code in codes for place in sums_in(code)]
    return len(places) > len({place: True for place in places})


def do_cover(kind, lefts, rights, one, two):
    """Whether blocks with these sides cover two codes."""
    found = over_blocks(kind, lefts, one)
    return found is not None and found == over_blocks(kind, rights, two)
