"""The result of a row of tags, told by the row of its letters or by a code (foldplans/codes.py) over them."""

from foldplans.codes import PLUS, letters_in


def _put_side_by_side(code, slots):
    """The parts that the steps of a code stand for, side by side, a tuple."""
    found = ()
    for step in code:
        found = found + slots[step]
    return found


def spelled_result(plan, numbers, is_flat):
    """The result of a row of tags, which is given by their numbers; None if there is none.

    It is the code of the tree over the positions of the row, or, flat, the letters of the tree alone.
    """
    turns = plan.turns
    choice = 1 if is_flat else 0
    held = [()] * len(plan.sums)
    state = 0
    for at, tag in enumerate(numbers):
        turn = turns[state][tag]
        state = turn.goal
        if turn.changes:
            work = turn.work
            if work.spelled is None:
                work.spell()
            # The last two slots are those of a + and of the item.
            slots = [*held, (PLUS,), (at,)]
            for place in turn.used:
                held[place] = ()
            for place, code in work.spelled[choice]:
                held[place] = _put_side_by_side(code, slots)
    end = plan.ends[state]
    if end is None:
        return None
    return _put_side_by_side(letters_in(end) if is_flat else end, [*held, (PLUS,), ()])


def _parts(code, known):
    """The parts of a tree in which no letter occurs twice, each told by the set of its letters.

    It is None if one of them is not among the known ones; these may be None, and then all are let.
    """
    ready = []
    found = {}
    for step in code:
        if step == PLUS:
            right = ready.pop()
            left = ready.pop()
            part = left | right
        else:
            part = 1 << step
        if known is not None and part not in known:
            return None
        ready.append(part)
        found[part] = True
    return found


def are_turned(one, two):
    """Whether two codes become equal if sides are exchanged; in neither of them a letter occurs twice."""
    return len(one) == len(two) and _parts(two, _parts(one, None)) is not None
