"""Functions that make loops."""

from foldplans.codes import ITEM, PLUS
from foldplans.errors import BadCount, BadName, NoTag, OtherTags, TooMany
from foldplans.names import is_name
from foldplans.writing import loop_of

_GREATEST_NUMBER = 6
_MOST_TAGS = 4


def _check_names(tags):
    """Raises BadName for the first text that is no name."""
    for tag in tags:
        if not is_name(tag):
            raise BadName(tag)


def _check(tags, k):
    """Raises BadName and BadCount for the tags and the number that a maker is given."""
    _check_names(tags)
    if not 1 <= k <= _GREATEST_NUMBER:
        raise BadCount(k)


def _behind(place):
    """The code for a sum with the item behind it."""
    return (place, ITEM, PLUS)


def _together(places):
    """The code for these sums together, None if there are none."""
    if not places:
        return None
    code = (places[0],)
    for place in places[1:]:
        code = code + (place, PLUS)
    return code


def _uniform(tags, many_sums, turns, ends):
    """The loop that treats all tags alike; `turns` has one turn for each state."""
    return loop_of(tags, many_sums, [[turn] * len(tags) for turn in turns], ends)


def _growing(tags, code):
    """One sum: the first item, and behind each further one what the code tells."""
    _check_names(tags)
    return _uniform(tags, 1, [(1, ((0, (ITEM,)),)), (1, ((0, code),))], [None, (0,)])


def fold(tags):
    """All items together."""
    return _growing(tags, _behind(0))


def back_fold(tags):
    """Each item in front of what there is."""
    return _growing(tags, (ITEM, 0, PLUS))


def lanes(tags, k):
    """The items in turn to k lanes, then the lanes together."""
    _check(tags, k)
    # First each lane gets its first item; then the states go round.
    turns = [(lane + 1, ((lane, (ITEM,)),)) for lane in range(k)]
    turns = turns + [(k + (lane + 1 if lane + 1 < k else 0), ((lane, _behind(lane)),)) for lane in range(k)]
    ends = [_together(list(range(filled))) for filled in range(k)] + [_together(list(range(k)))] * k
    return _uniform(tags, k, turns, ends)


def blocks(tags, k):
    """Each k items together, then these together."""
    _check(tags, k)
    # Sum 0 has the blocks that are done, sum 1 the one that is not. The states tell how many items
    # it has: first as long as no block is done, and then again.
    first = [(1, ((1, (ITEM,)),))] + [(many + 1, ((1, _behind(1)),)) for many in range(1, k)]
    later = [(k + 1, ((1, (ITEM,)),))] + [(k + many + 1, ((1, _behind(1)),)) for many in range(1, k)]
    if k == 1:
        first[0] = (1, ((0, (ITEM,)),))
        later[0] = (1, ((0, _behind(0)),))
    else:
        first[-1] = (k, ((0, _behind(1)),))
        later[-1] = (k, ((0, (0, 1, ITEM, PLUS, PLUS)),))
    ends = [None] + [(1,)] * (k - 1) + [(0,)] + [(0, 1, PLUS)] * (k - 1)
    return _uniform(tags, 2, first + later, ends)


def earliest(tags, k):
    """The first k items together."""
    _check(tags, k)
    turns = [(1, ((0, (ITEM,)),))] + [(many + 1, ((0, _behind(0)),)) for many in range(1, k)] + [(k, ())]
    return _uniform(tags, 1, turns, [None] + [(0,)] * k)


def latest(tags, k):
    """The last k items together."""
    _check(tags, k)
    turns = [(many + 1, ((many, (ITEM,)),)) for many in range(k)]
    moved = [(place, (place + 1,)) for place in range(k - 1)] + [(k - 1, (ITEM,))]
    return _uniform(tags, k, turns + [(k, moved)], [_together(list(range(many))) for many in range(k + 1)])


def every(tags, k):
    """The items number 0, k, 2 k and so on, together."""
    _check(tags, k)
    turns = [(1, ((0, (ITEM,)),))] + [(many + 1, ()) for many in range(1, k)] + [(1, ((0, _behind(0)),))]
    return _uniform(tags, 1, turns, [None] + [(0,)] * k)


def by_tag(tags):
    """For each tag its items together, then these together."""
    _check_names(tags)
    many = len(tags)
    if many > _MOST_TAGS:
        raise BadCount(many)
    # The number of a state has a bit for each tag that has occurred.
    turns = []
    for state in range(1 << many):
        fresh = [(state >> tag) & 1 == 0 for tag in range(many)]
        turns.append(
            [(state | (1 << tag), ((tag, (ITEM,) if fresh[tag] else _behind(tag)),)) for tag in range(many)]
        )
    ends = [_together([tag for tag in range(many) if (state >> tag) & 1 == 1]) for state in range(1 << many)]
    return loop_of(tags, many, turns, ends)


def _changed_for(loop, tag, turn_in):
    """The loop with other turns for one tag: the function tells them for each state."""
    if tag not in loop.tags:
        raise NoTag(tag)
    plan = loop.plan
    place = plan.tag_numbers[tag]
    turns = []
    for state, row in enumerate(plan.turns):
        told = [(turn.goal, turn.changes) for turn in row]
        told[place] = turn_in(state)
        turns.append(told)
    return loop_of(plan.tags, len(plan.sums), turns, plan.ends)


def without(loop, tag):
    """What the loop gives without the items of this tag."""
    return _changed_for(loop, tag, lambda state: (state, ()))


def restarting(loop, tag):
    """What the loop gives for the items behind the last item of this tag."""
    emptied = [(place, None) for place in range(len(loop.sums))]
    return _changed_for(loop, tag, lambda state: (0, emptied))


def _most_items(loop, tag):
    """How often at most a state uses x behind its line for the tag with this number."""
    codes = [[code for _, code in row[tag].changes if code is not None] for row in loop.plan.turns]
    return max([int(sum([code.count(ITEM) for code in told])) for told in codes])


def _moved(code, by):
    """The code with other numbers for its sums."""
    if code is None:
        return None
    return tuple([step + by if step >= 0 else step for step in code])


def _side_by_side(left, right, by):
    """The assignments of two turns."""
    return list(left.changes) + [(place + by, _moved(code, by)) for place, code in right.changes]


def _added(left, right):
    """The code for the sum of two codes that may be None."""
    if left is None or right is None:
        return right if left is None else left
    return left + right + (PLUS,)


def joined(p, q):
    """The result of p + the result of q; if only one of them has a result, this one."""
    if p.tags != q.tags:
        raise OtherTags()
    for tag in range(len(p.tags)):
        if _most_items(p, tag) + _most_items(q, tag) > 2:
            raise TooMany()
    by = len(p.sums)
    numbers = {(0, 0): 0}
    pairs = [(0, 0)]
    turns = []
    ends = []
    while len(turns) < len(pairs):
        one, two = pairs[len(turns)]
        row = []
        for left, right in zip(p.plan.turns[one], q.plan.turns[two]):
            pair = (left.goal, right.goal)
            if pair not in numbers:
                numbers[pair] = len(pairs)
                pairs.append(pair)
            row.append((numbers[pair], _side_by_side(left, right, by)))
        turns.append(row)
        ends.append(_added(p.plan.ends[one], _moved(q.plan.ends[two], by)))
    return loop_of(p.tags, by + len(q.sums), turns, ends)
