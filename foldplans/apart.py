"""Why two blocks of a form cannot lie in the same sum.

What is told of a row or a tree is a text: `a` and `b` are the letters of the two blocks, `.` stands for
all others.
"""

from foldplans.codes import PLUS

_OTHERS = "."
_PARTED = "-"


def _row_of(one, two):
    """Two rows put together; others that stand side by side count as one."""
    return (one + two).replace(_OTHERS + _OTHERS, _OTHERS)


def _tree_of(one, two):
    """Two trees put together.

    A capital letter stands for a part that has others, too; `ab` and `ba` for one in which the two
    blocks stand side by side, `-` for any other one that has both.
    """
    if one == _OTHERS or two == _OTHERS:
        told = two if one == _OTHERS else one
        return told.upper() if told in ("a", "b") else told
    return one + two if one + two in ("ab", "ba") else _PARTED


def _told(kind, shape, held):
    """What is told of a shape; `held` tells it of its letters."""
    flat = kind in ("words", "bags")
    ready = []
    for step in shape:
        if step == PLUS:
            right = ready.pop()
            left = ready.pop()
            ready.append(_tree_of(left, right))
        else:
            latest = held[step] if step >= 0 else _OTHERS
            ready.append(_row_of(ready.pop(), latest) if flat and ready else latest)
    return ready[0]


def _reason(kind, told):
    """What a result tells of the two blocks: their order if they stand side by side.

    It is `-` if one result alone shows that they cannot lie in one sum; None if it tells nothing.
    """
    if told == _OTHERS:
        return None
    if "ab" in told or "ba" in told:
        if kind == "bags":
            return None
        return "ab" if "ab" in told or kind == "pairs" else "ba"
    if kind == "bags" and "a" in told and "b" in told:
        return None
    return _PARTED


def tails_for(form, state, one, two):
    """One or two rows of tag numbers that show behind a state why two of its blocks lie apart."""
    held = [_OTHERS] * form.many_blocks(state)
    held[one] = "a"
    held[two] = "b"
    first = (state, tuple(held))
    rows = {first: []}
    waiting = [first]
    found = {}
    at = 0
    while at < len(waiting) and len(found) < 2:
        here = waiting[at]
        at += 1
        end = form.ends[here[0]]
        reason = None if end is None else _reason(form.under, _told(form.under, end, here[1]))
        if reason == _PARTED:
            return [rows[here]]
        if reason is not None and reason not in found:
            found[reason] = rows[here]
        for tag, (goal, contents) in enumerate(form.turns[here[0]]):
            behind = (goal, tuple([_told(form.under, shape, here[1]) for shape in contents]))
            if behind not in rows:
                rows[behind] = rows[here] + [tag]
                waiting.append(behind)
    return list(found.values())


def widest(form):
    """The shortest row of tag numbers to a state with most blocks, and for each block a position in it.

    The state is told, too.
    """
    waiting = [(0, [], [])]
    met = {0: True}
    at = 0
    while form.many_blocks(waiting[at][0]) < form.greatest_size():
        state, row, places = waiting[at]
        at += 1
        for tag, (goal, contents) in enumerate(form.turns[state]):
            if goal not in met:
                met[goal] = True
                letters = [[step for step in shape if step != PLUS][0] for shape in contents]
                moved = [places[letter] if letter >= 0 else len(row) for letter in letters]
                waiting.append((goal, row + [tag], moved))
    return waiting[at]
