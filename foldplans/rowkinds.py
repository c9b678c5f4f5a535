"""The least kinds of two loops row by row."""

from foldplans.checks import check_tags
from foldplans.codes import letters_in
from foldplans.duels import parting_rows_of
from foldplans.errors import BadTag
from foldplans.gauges import gauge_for
from foldplans.leastkinds import least_by_parts, parts_for, plainest_kind
from foldplans.machines import Machine
from foldplans.remains import least_of_unlike
from foldplans.rowsets import RowSet
from foldplans.spelled import are_turned, spelled_result

_NO_TAG = -1


def _tag_numbers(loop, row):
    """The numbers of the tags of a row."""
    known = loop.plan.tag_numbers
    found = [known.get(tag, _NO_TAG) for tag in row]
    if _NO_TAG in found:
        raise BadTag(found.index(_NO_TAG))
    return found


def kinds_at(p, q, row):
    """The least kinds of two loops at a row of tags."""
    check_tags(p, q)
    numbers = _tag_numbers(p, row)
    are_single = p.is_single and q.is_single
    one = spelled_result(p.plan, numbers, not are_single)
    two = spelled_result(q.plan, numbers, not are_single)
    if one == two:
        return ["trees"] if are_single else ["words"]
    if one is None or two is None:
        return []
    if not are_single:
        return least_of_unlike(one, two, False)
    # The letters differ from one another. So trees with the same row of letters that are not equal do
    # not agree under pairs either.
    left = letters_in(one)
    right = letters_in(two)
    return ["words"] if left == right else least_of_unlike(left, right, are_turned(one, two))


def _machines_for(p, q, parts, are_single):
    """For each part the machine for the rows for which the results do not agree."""
    found = {}
    for part in parts:
        plainest = plainest_kind(part, are_single)
        if plainest not in found:
            found[plainest] = parting_rows_of(p.plan, q.plan, gauge_for(plainest, are_single, True))
    return [found[plainest_kind(part, are_single)] for part in parts]


def _followed_together(machines):
    """The states that the machines reach together, tuples in the order in which they are met.

    The states that follow each of them are told, too, by their numbers.
    """
    first = tuple([0 for _ in machines])
    numbers = {first: 0}
    found = [first]
    nexts = []
    while len(nexts) < len(found):
        states = found[len(nexts)]
        goals = [machine.nexts[state] for machine, state in zip(machines, states)]
        row = []
        for goal in zip(*goals):
            if goal not in numbers:
                numbers[goal] = len(found)
                found.append(goal)
            row.append(numbers[goal])
        nexts.append(row)
    return found, nexts


def rows_by_kinds(p, q):
    """All lists of kinds that are the least kinds at some row, with the sets of these rows."""
    check_tags(p, q)
    are_single = p.is_single and q.is_single
    parts = parts_for(are_single)
    machines = _machines_for(p, q, parts, are_single)
    found, nexts = _followed_together(machines)
    answers = [
        tuple([part for part, machine, state in zip(parts, machines, states) if not machine.accepting[state]])
        for states in found
    ]
    kinds = {answer: tuple(least_by_parts(are_single, answer)) for answer in answers}
    told = {kinds[answer]: True for answer in answers}
    return [
        (list(least), RowSet(p.tags, Machine(nexts, [kinds[answer] == least for answer in answers], 0)))
        for least in told
    ]
