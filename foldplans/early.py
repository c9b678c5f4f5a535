"""A first look for a short list that has different results over a gauge."""

from foldplans.codes import worked_out

# How many items are looked at.
_GREATEST_EFFORT = 3000


class Look:
    """Two plans that are followed together over a gauge, list by list.

    A node tells what is used up, and for both plans the state and what the sums hold; where a sum holds
    nothing, it counts as if it held 0.
    """

    def __init__(self, one, two, gauge):
        self.plans = (one, two)
        self.gauge = gauge
        self.signs = [(tag, at) for tag in range(len(one.tags)) for at in range(len(gauge.letters))]

    def _joined(self, left, right):
        return self.gauge.rows[left][right]

    def _behind(self, node, tag, at):
        """The node behind an item with this tag and this letter; None if it may not have the letter."""
        later = self.gauge.supply[node[0]][at]
        if later is None:
            return None
        found = []
        for plan, (state, held) in zip(self.plans, node[1:]):
            turn = plan.turns[state][tag]
            after = turn.held_behind(held, self.gauge.letters[at], self._joined)
            found.append((turn.goal, tuple([0 if value is None else value for value in after])))
        return (later, found[0], found[1])

    def _differs(self, node):
        """Whether the results are different if the list ends there."""
        told = [
            worked_out(plan.ends[state], held, None, self._joined)
            for plan, (state, held) in zip(self.plans, node[1:])
        ]
        return told[0] != told[1]

    def shortest(self):
        """A shortest list with different results, of tuples of a tag number and a value.

        It is None if nothing is known behind some effort, and the empty list if there is no such list.
        """
        one, two = [(0, (0,) * len(plan.sums)) for plan in self.plans]
        first = (0, one, two)
        lists = {first: []}
        waiting = [first]
        at = 0
        while at < len(waiting):
            node = waiting[at]
            if self._differs(node):
                return [(tag, self.gauge.letters[letter]) for tag, letter in lists[node]]
            at += 1
            if at * len(self.signs) > _GREATEST_EFFORT:
                return None
            for sign in self.signs:
                behind = self._behind(node, sign[0], sign[1])
                if behind is not None and behind not in lists:
                    lists[behind] = lists[node] + [sign]
                    waiting.append(behind)
        return []
