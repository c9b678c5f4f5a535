"""How many + a loop computes, and how many of them in vain."""

from foldplans.bits import has_member, set_of
from foldplans.codes import pluses_in, sums_in
from foldplans.errors import OtherTags
from foldplans.lives import wanted_ahead
from foldplans.walks import greatest_total


def cost(loop, tags):
    """How many + a run for a list with these tags computes."""
    state = 0
    total = 0
    for index, tag in enumerate(tags):
        turn = loop.turn(state, tag, index)
        total += turn.work.pluses
        state = turn.goal
    return total + pluses_in(loop.plan.ends[state])


def waste(loop, tags):
    """How many of them are not in the result."""
    total = cost(loop, tags)
    kept = loop.run([(tag, 0) for tag in tags], lambda left, right: left + right + 1)
    return total if kept is None else total - kept


def _lost(turn, wanted):
    """How many + are computed behind an `on` line for values that the result has not."""
    return sum([pluses_in(code) for place, code in turn.changes if not has_member(wanted, place)])


def _arrivals(plan):
    """For each state that some list reaches, the tuples of a state and a turn that lead there."""
    found = {state: [] for state in plan.reached()}
    for state in list(found):
        for turn in plan.turns[state]:
            found[turn.goal].append((state, turn))
    return found


def greatest_waste(loop):
    """The greatest waste over all rows of tags, None if there is no greatest one."""
    # A + is wasted exactly if its value is thrown away later. So a node is a state together with the
    # sums of which the result has the values; it is known behind the last item, and then for each
    # item ahead of it. At the beginning no sum holds a value.
    arrivals = _arrivals(loop.plan)
    nodes = {(0, 0): 0}
    waiting = [(0, 0)]
    for state in arrivals:
        end = (state, set_of(sums_in(loop.plan.ends[state])))
        if end not in nodes:
            nodes[end] = len(nodes)
            waiting.append(end)
    ends = [0] * len(nodes)
    ways = [[] for _ in nodes]
    while waiting:
        goal, wanted = waiting.pop()
        for state, turn in arrivals[goal]:
            ahead = (state, wanted_ahead(turn, wanted))
            if ahead not in nodes:
                nodes[ahead] = len(nodes)
                waiting.append(ahead)
                ends.append(None)
                ways.append([])
            ways[nodes[ahead]].append((nodes[goal, wanted], _lost(turn, wanted)))
    return greatest_total(ways, ends)


def greatest_lead(p, q):
    """The greatest cost of p minus cost of q over all rows of tags, None if there is no greatest one."""
    if p.tags != q.tags:
        raise OtherTags()
    nodes = {(0, 0): 0}
    pairs = [(0, 0)]
    ways = []
    while len(ways) < len(pairs):
        one, two = pairs[len(ways)]
        leads = []
        for left, right in zip(p.plan.turns[one], q.plan.turns[two]):
            pair = (left.goal, right.goal)
            if pair not in nodes:
                nodes[pair] = len(pairs)
                pairs.append(pair)
            leads.append((nodes[pair], left.work.pluses - right.work.pluses))
        ways.append(leads)
    ends = [pluses_in(p.plan.ends[one]) - pluses_in(q.plan.ends[two]) for one, two in pairs]
    return greatest_total(ways, ends)
