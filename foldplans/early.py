"""A first look for a short list that has different results over an operation."""

from foldplans.codes import worked_out

# How many items are looked at.
_GREATEST_EFFORT = 10000


class Look:
    """Two plans that are followed together over an operation on numbers, list by list.

    `rows[a][b]` is a + b. Where a sum holds nothing, it counts as if it held 0.
    """

    def __init__(self, one, two, rows):
        self.plans = (one, two)
        self.rows = rows

    def _joined(self, left, right):
        return self.rows[left][right]

    def _behind(self, pair, tag, value):
        """The states and what the sums hold, for both plans, behind an item."""
        found = []
        for plan, (state, held) in zip(self.plans, pair):
            turn = plan.turns[state][tag]
            after = turn.held_behind(held, value, self._joined)
            found.append((turn.goal, tuple([0 if worth is None else worth for worth in after])))
        return tuple(found)

    def _differ(self, pair):
        """Whether the results are different if the list ends there."""
        told = [
            worked_out(plan.ends[state], held, None, self._joined) for plan, (state, held) in zip(self.plans, pair)
        ]
        return told[0] != told[1]

    def shortest(self):
        """A shortest list of items, tuples of a tag number and a value, with different results.

        It is None if nothing is known behind some effort, and the empty list if there is no such list.
        """
        items = [(tag, value) for tag in range(len(self.plans[0].tags)) for value in range(len(self.rows))]
        first = tuple([(0, (0,) * len(plan.sums)) for plan in self.plans])
        lists = {first: []}
        waiting = [first]
        at = 0
        while at < len(waiting):
            pair = waiting[at]
            if self._differ(pair):
                return lists[pair]
            at += 1
            if at * len(items) > _GREATEST_EFFORT:
                return None
            for tag, value in items:
                behind = self._behind(pair, tag, value)
                if behind not in lists:
                    lists[behind] = lists[pair] + [(tag, value)]
                    waiting.append(behind)
        return []
