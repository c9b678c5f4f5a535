"""Loops: they go through a list once and put its items together."""

from foldplans.emptiness import empty_row
from foldplans.errors import BadTag, EmptySum
from foldplans.reading import read_plan


def _uses_items_twice(plan):
    """Whether an `on` line that some list reaches has x twice."""
    return any([turn.work.is_double for state in plan.reached() for turn in plan.turns[state]])


class Loop:
    """The loop with this text; it never changes. `plan` tells by numbers what it does."""

    def __init__(self, text):
        plan = read_plan(text)
        row = empty_row(plan)
        if row is not None:
            raise EmptySum(row)
        self.text = text
        self.tags = plan.tags
        self.sums = plan.sums
        self.states = plan.states
        self.plan = plan
        self._single = not _uses_items_twice(plan)

    def __str__(self):
        return str(self.text)

    def __eq__(self, other):
        return isinstance(other, Loop) and self.text == other.text

    @property
    def is_single(self):
        """Whether no `on` line that some list reaches has x twice."""
        return self._single

    def turn(self, state, tag, index):
        """What happens in the state with this number at the item with this tag and index."""
        numbers = self.plan.tag_numbers
        if tag not in numbers:
            raise BadTag(index)
        return self.plan.turns[state][numbers[tag]]

    def tree(self, tags):
        """The result of a row of tags: a tree over the positions of the row, or None."""
        return self.run([(tag, at) for at, tag in enumerate(tags)], lambda left, right: (left, right))

    def run(self, items, operation):
        """The result of the run for a list of tuples (tag, value), or None if there is none."""
        numbers = self.plan.tag_numbers
        turns = self.plan.turns
        state = 0
        held = self.plan.nothing_held()
        for index, (tag, value) in enumerate(list(items)):
            if tag not in numbers:
                raise BadTag(index)
            turn = turns[state][numbers[tag]]
            held = turn.held_behind(held, value, operation)
            state = turn.goal
        return self.plan.outcome(state, held, operation)

    def __call__(self, items):
        return self.run(items, lambda left, right: left + right)

    def steps(self, items, operation):
        """Yields, for the beginning and behind each item, the state and a dict of what the sums hold."""
        state = 0
        held = self.plan.nothing_held()
        rest = list(items)
        yield self._shown(state, held)
        for index, (tag, value) in enumerate(rest):
            turn = self.turn(state, tag, index)
            held = turn.held_behind(held, value, operation)
            state = turn.goal
            yield self._shown(state, held)

    def _shown(self, state, held):
        """The name of a state, and a dict from the sums that are not empty to their values."""
        filled = {name: value for name, value in zip(self.sums, held) if value is not None}
        return (self.states[state], filled)
