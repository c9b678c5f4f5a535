"""How high the trees are that loops put together."""

from foldplans.cases import Cases
from foldplans.codes import ITEM, depths_in
from foldplans.errors import BadCount
from foldplans.gauges import Gauge
from foldplans.lives import living_sums
from foldplans.machines import Machine
from foldplans.rowsets import RowSet
from foldplans.trees import letters, value_of
from foldplans.walks import greatest_total

_GREATEST_HEIGHT = 30


def _put_together(left, right):
    """The height of two parts together, if these are their heights."""
    return 1 + (left if left > right else right)


def height(tree):
    """0 for a number, otherwise 1 more than the greater one of the heights of both sides."""
    return value_of(tree, {letter: 0 for letter in letters(tree)}, _put_together)


def _ways_behind(turn, step, nodes):
    """The ways behind an `on` line for a part: tuples of a node, and how much deeper the part is there."""
    kept = []
    for place, code in turn.changes:
        for used, depth in depths_in(code):
            if used == step:
                kept.append(((turn.goal, place), depth))
    if step != ITEM and not kept and step not in turn.used and step not in [place for place, _ in turn.changes]:
        kept.append(((turn.goal, step), 0))
    return [(nodes[node], depth) for node, depth in kept if node in nodes]


def greatest_height(loop):
    """The greatest height of the results of a loop, None if there is no greatest one."""
    # It is the greatest depth of an item in a result. So a node is a state with a sum that has the
    # item; node 0 is the beginning.
    plan = loop.plan
    living = living_sums(plan)
    nodes = {}
    for state in plan.reached():
        for place in living[state]:
            nodes[state, place] = len(nodes) + 1
    turns = [turn for state in plan.reached() for turn in plan.turns[state]]
    ways = [[way for turn in turns for way in _ways_behind(turn, ITEM, nodes)]]
    ends = [0]
    for state, place in nodes:
        depths = [depth for used, depth in depths_in(plan.ends[state]) if used == place]
        ends.append(depths[0] if depths else None)
        ways.append([way for turn in plan.turns[state] for way in _ways_behind(turn, place, nodes)])
    return greatest_total(ways, ends)


def _gauge_up_to(most):
    """The gauge that tells heights up to this one; greater ones count as this one."""
    values = list(range(most + 1))
    rows = [[_put_together(a, b) if a < most and b < most else most for b in values] for a in values]
    return Gauge(rows, 1, [[(0, 0)]], [""] * (most + 1))


def high_rows(loop, h):
    """The rows of tags whose result is higher than h."""
    if not 0 <= h <= _GREATEST_HEIGHT:
        raise BadCount(h)
    cases = Cases(_gauge_up_to(h + 1), len(loop.tags))
    start = cases.start_of(loop.plan)
    return RowSet(loop.tags, Machine(cases.nexts, [outcome == h + 1 for outcome in cases.outcomes], start))
