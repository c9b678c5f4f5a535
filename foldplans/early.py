"""A first look for a short list that has different results over a gauge."""

from foldplans.following import Follower

# How many items are looked at, about.
_GREATEST_EFFORT = 3000


class Look:
    """Two plans that are followed together over a gauge, list by list.

    A node tells what is used up, and for both plans the state and what the sums hold. The nodes that are
    met are numbered.
    """

    def __init__(self, one, two, gauge):
        self.one = Follower(one, gauge)
        self.two = Follower(two, gauge)
        self.gauge = gauge
        self.nodes = [(0, 0, self.one.beginning, 0, self.two.beginning)]
        self.numbers = {self.nodes[0]: 0}
        # For each node how many items lead to it, and the node ahead with the tag and the place of the
        # letter in the supply.
        self.lengths = [0]
        self.origins = [None]
        self.known = {}

    def _turns(self, state, other):
        """The turns of both plans for each tag, with its number; if tags do the same, the first is enough."""
        key = (state, other)
        if key not in self.known:
            firsts = {}
            for tag, turns in enumerate(zip(self.one.turns[state], self.two.turns[other])):
                firsts.setdefault(turns, tag)
            self.known[key] = [(tag, left, right) for (left, right), tag in firsts.items()]
        return self.known[key]

    def _go_on(self, at):
        """Meets the nodes that follow a node; how many items lead there."""
        used, state, held, other, likewise = self.nodes[at]
        many = 0
        for tag, left, right in self._turns(state, other):
            lefts = self.one.held_behind(left, used, held)
            rights = self.two.held_behind(right, used, likewise)
            many += len(lefts)
            for choice, (later, after) in enumerate(lefts):
                node = (later, left.goal, after, right.goal, rights[choice][1])
                if node not in self.numbers:
                    self.numbers[node] = len(self.nodes)
                    self.nodes.append(node)
                    self.lengths.append(self.lengths[at] + 1)
                    self.origins.append((at, tag, choice))
        return many

    def _items_to(self, at):
        """The items that lead to a node, tuples of the number of a tag and a value."""
        found = []
        while at > 0:
            at, tag, choice = self.origins[at]
            used = self.nodes[at][0]
            found.append((tag, self.gauge.supply[used][choice][0]))
        return found[::-1]

    def _differs(self, at):
        """Whether the results are different if the list ends there."""
        _, state, held, other, likewise = self.nodes[at]
        return self.one.outcome(state, held) != self.two.outcome(other, likewise)

    def shortest(self, most):
        """A shortest list with different results, of tuples of a tag number and a value.

        It is None if nothing is known behind some effort, and the empty list if there is no such list.
        Unless `most` is None, longer lists are left out of account.
        """
        at = 0
        effort = 0
        while at < len(self.nodes):
            if self._differs(at):
                return self._items_to(at)
            if effort > _GREATEST_EFFORT:
                return None
            if most is None or self.lengths[at] < most:
                effort += self._go_on(at)
            at += 1
        return []
