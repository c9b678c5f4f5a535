"""How loops that are made are written down."""

from foldplans.codes import ITEM, PLUS
from foldplans.loops import Loop
from foldplans.names import is_name

_LETTERS = "abcdefghijklmnopqrstuvwxyz"


def _fresh_names(taken, many):
    """So many names that are none of the taken ones: the shortest, in the order of the alphabet."""
    found = []
    level = [""]
    while len(found) < many:
        level = [name + letter for name in level for letter in _LETTERS]
        found = found + [name for name in level if is_name(name) and name not in taken]
    return found[:many]


def words_of(code, names):
    """The expression of a code, with as few brackets as possible; `none` if the code is None."""
    if code is None:
        return "none"
    ready = []
    for step in code:
        if step == PLUS:
            right, is_sum = ready.pop()
            left, _ = ready.pop()
            ready.append((left + " + " + ("( " + right + " )" if is_sum else right), True))
        else:
            ready.append(("x" if step == ITEM else names[step], False))
    return ready[0][0]


def _turn_lines(tag, turn, sums, states):
    """The lines of a turn: a tuple of the next state and the assignments."""
    goal, changes = turn
    first = "on " + tag + " go " + states[goal]
    return [first] + [sums[place] + " = " + words_of(code, sums) for place, code in changes]


def loop_of(tags, many_sums, turns, ends):
    """The loop with these tags and so many sums; it does what the turns and the ends tell by numbers.

    `turns[state][tag]` is a tuple of the next state and the assignments, tuples of a sum and a code;
    `ends[state]` is a code, or None.
    """
    names = _fresh_names(tags, many_sums + len(turns))
    sums = names[:many_sums]
    states = names[many_sums:]
    lines = [" ".join(["tags"] + list(tags)), " ".join(["sums"] + sums)]
    for state, row in enumerate(turns):
        lines.append("state " + states[state])
        for tag, turn in zip(tags, row):
            lines.extend(_turn_lines(tag, turn, sums, states))
        lines.append("end " + words_of(ends[state], sums))
    return Loop("\n".join(lines))
