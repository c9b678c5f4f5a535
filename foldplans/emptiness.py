"""Which row of tags makes a loop use an empty sum."""

from foldplans.bits import set_of
from foldplans.codes import sums_in

# What is known of one sum. A run that has used it while it was empty is broken.
_EMPTY = 0
_FULL = 1
_BROKEN = 2


def _state_behind(turn, place, told):
    """What becomes of a sum behind an `on` line."""
    if place in turn.used and told == _EMPTY:
        return _BROKEN
    for target, code in turn.changes:
        if target == place:
            return _EMPTY if code is None else _FULL
    return _EMPTY if place in turn.used else told


def _is_broken(plan, state, place, told):
    """Whether a run that ends in this state has used the sum while it was empty."""
    return told == _BROKEN or told == _EMPTY and place in sums_in(plan.ends[state])


def _row_for(plan, place):
    """The first row of tag numbers for which this sum is used while it is empty, or None."""
    # Each sum is looked at alone: as long as no run is broken, what holds a value behind a line does
    # not depend on what the other sums hold. So there are few cases, also for many sums.
    rows = {(0, _EMPTY): []}
    waiting = [(0, _EMPTY)]
    at = 0
    while at < len(waiting):
        state, told = waiting[at]
        row = rows[state, told]
        if _is_broken(plan, state, place, told):
            return row
        for tag, turn in enumerate(plan.turns[state]):
            behind = (turn.goal, _state_behind(turn, place, told))
            if behind not in rows:
                rows[behind] = row + [tag]
                waiting.append(behind)
        at += 1
    return None


def _uses_empty_sums(plan):
    """Whether some run uses an empty sum."""
    # For each state the sums that may be empty there: as long as no run is broken, what becomes of one
    # sum does not depend on the others.
    empty = {0: (1 << len(plan.sums)) - 1}
    waiting = [0]
    while waiting:
        later = {}
        for state in waiting:
            if empty[state] & set_of(sums_in(plan.ends[state])):
                return True
            for turn in plan.turns[state]:
                work = turn.work
                if empty[state] & work.needed:
                    return True
                before = empty.get(turn.goal)
                behind = (empty[state] | work.emptied) & ~work.filled
                if before is None or behind & ~before:
                    empty[turn.goal] = behind if before is None else before | behind
                    later[turn.goal] = True
        waiting = list(later)
    return False


def empty_row(plan):
    """The first row of tags, the shorter ones first, for which a run uses an empty sum, or None."""
    if not _uses_empty_sums(plan):
        return None
    found = None
    for place in range(len(plan.sums)):
        row = _row_for(plan, place)
        if row is not None and (found is None or (len(row), row) < (len(found), found)):
            found = row
    if found is None:
        return None
    return [plan.tags[tag] for tag in found]
