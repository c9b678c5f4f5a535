"""Matchings: they show that two single loops agree."""

from foldplans.checks import check_normal, check_tags
from foldplans.codes import MOST_OPEN, code_of
from foldplans.covers import become, do_cover, have_sum_twice
from foldplans.forms import form_of
from foldplans.likeness import likeness
from foldplans.shapes import code_of_shape, halves, most_open
from foldplans.writing import words_of


def _check(p, q, kind):
    check_tags(p, q)
    check_normal([p, q], kind)


def _within_limit(left, right):
    """The block with these shapes, or several in its place, so that few enough brackets are open."""
    if most_open(left) <= MOST_OPEN and most_open(right) <= MOST_OPEN or len(left) == 1 or len(right) == 1:
        return [(left, right)]
    found = []
    for pair in zip(halves(left), halves(right)):
        found.extend(_within_limit(pair[0], pair[1]))
    return found


def _blocks(kind, lefts, rights):
    """The shapes of the sides of the blocks, tuples of two. Only under `trees` one may have many brackets."""
    if kind != "trees":
        return list(zip(lefts, rights))
    return [block for left, right in zip(lefts, rights) for block in _within_limit(left, right)]


def matching(p, q, kind):
    """A matching of two loops, or None if they do not agree."""
    _check(p, q, kind)
    one = form_of(p.plan, kind)
    two = form_of(q.plan, kind)
    found = likeness(one, two, (0, 0, ()))
    if found is None:
        return None
    entries = []
    for state, other, names in found:
        told = _blocks(kind, one.made_of[state], [two.made_of[other][like] for like in names])
        blocks = [
            (words_of(code_of_shape(kind, left), p.sums), words_of(code_of_shape(kind, right), q.sums))
            for left, right in told
        ]
        entries.append((p.states[one.states[state]], q.states[two.states[other]], blocks))
    return entries


class Entry:
    """An entry by numbers: two states, and the codes of the left and the right sides of its blocks."""

    def __init__(self, state, other, lefts, rights):
        self.state = state
        self.other = other
        self.lefts = lefts
        self.rights = rights


def _numbers(names):
    return {name: at for at, name in enumerate(names)}


def _codes_of(texts, sums):
    """The codes of some texts, or None if one of them is no expression, or a sum occurs twice."""
    places = _numbers(sums)
    codes = [code_of(text.split(" "), places) if isinstance(text, str) else None for text in texts]
    if any([code is None for code in codes]) or have_sum_twice(codes):
        return None
    return codes


def _entry_of(p, q, told):
    """The entry that a value stands for, or None if it stands for none."""
    if not isinstance(told, tuple) or len(told) != 3:
        return None
    state, other, blocks = told
    if not isinstance(state, str) or not isinstance(other, str) or not isinstance(blocks, list):
        return None
    if state not in p.states or other not in q.states:
        return None
    if not all([isinstance(block, tuple) and len(block) == 2 for block in blocks]):
        return None
    lefts = _codes_of([left for left, _ in blocks], p.sums)
    rights = _codes_of([right for _, right in blocks], q.sums)
    if lefts is None or rights is None:
        return None
    return Entry(p.states.index(state), q.states.index(other), lefts, rights)


def _leads_to(kind, entry, left, right, behind):
    """Whether an entry covers what the sides of the blocks of another one become behind two `on` lines."""
    if behind.state != left.goal or behind.other != right.goal:
        return False
    for one, two in zip(behind.lefts, behind.rights):
        moved = become(left, one)
        likewise = become(right, two)
        if moved is None or likewise is None or not do_cover(kind, entry.lefts, entry.rights, moved, likewise):
            return False
    return True


def _holds_behind(p, q, kind, entry, entries):
    """Whether there is an entry behind this one for each tag."""
    for left, right in zip(p.plan.turns[entry.state], q.plan.turns[entry.other]):
        if not any([_leads_to(kind, entry, left, right, behind) for behind in entries]):
            return False
    return True


def _holds_at_end(p, q, kind, entry):
    """Whether the results of both loops at once are covered."""
    one = p.plan.ends[entry.state]
    two = q.plan.ends[entry.other]
    if one is None or two is None:
        return one is None and two is None
    return do_cover(kind, entry.lefts, entry.rights, one, two)


def is_matching(p, q, kind, value):
    """Whether any value is a matching of two loops."""
    _check(p, q, kind)
    if not isinstance(value, list):
        return False
    entries = [_entry_of(p, q, told) for told in value]
    if any([entry is None for entry in entries]):
        return False
    if not any([entry.state == 0 and entry.other == 0 and not entry.lefts for entry in entries]):
        return False
    return all([
        _holds_at_end(p, q, kind, entry) and _holds_behind(p, q, kind, entry, entries) for entry in entries
    ])
