"""Pieces of lists: each is summed up by itself, and the summaries are joined."""

from foldplans.codes import worked_out
from foldplans.errors import BadTag, NotHere, NotNeighbours


def _meeting(left, right, operation):
    """The parts of two rows of parts together; values that meet are put together."""
    if left and right and isinstance(left[-1], tuple) and isinstance(right[0], tuple):
        return left[:-1] + [(operation(left[-1][0], right[0][0]),)] + right[1:]
    return left + right


class Summary:
    """What a piece of a list does to the sums of a loop, whatever they hold ahead of it; it never changes."""

    def __init__(self, loop, items, operation):
        self._loop = loop
        self._operation = operation
        rest = list(items)
        for index, (tag, _) in enumerate(rest):
            if tag not in loop.plan.tag_numbers:
                raise BadTag(index)
        # For each state in which the piece may begin the state behind it, and the parts of all sums.
        self._effects = {state: self._followed(state, rest) for state in loop.plan.reached()}

    def _join(self, left, right):
        return _meeting(left, right, self._operation)

    def _followed(self, state, items):
        """The state behind a piece that begins in a state, and the parts of all sums."""
        held = [[name] for name in self._loop.sums]
        for index, (tag, value) in enumerate(items):
            turn = self._loop.turn(state, tag, index)
            after = turn.held_behind(held, [(value,)], self._join)
            held = [[] if parts is None else parts for parts in after]
            state = turn.goal
        return state, held

    def _number(self, state):
        """The number of a state that some list reaches."""
        states = self._loop.states
        if state not in states or states.index(state) not in self._effects:
            raise NotHere(state)
        return states.index(state)

    def behind(self, state):
        """The name of the state behind the piece if it begins in this one."""
        return self._loop.states[self._effects[self._number(state)][0]]

    def parts(self, state, name):
        """The parts of a sum behind the piece if it begins in this state."""
        number = self._number(state)
        if name not in self._loop.sums:
            raise NotHere(name)
        return list(self._effects[number][1][self._loop.sums.index(name)])

    def then(self, other):
        """The summary of this piece followed by another one."""
        if self._loop != other._loop:
            raise NotNeighbours()
        effects = {}
        for number, (state, held) in self._effects.items():
            goal, later = other._effects[state]
            effects[number] = (goal, [self._filled(parts, held) for parts in later])
        found = Summary(self._loop, [], self._operation)
        found._effects = effects
        return found

    def _filled(self, parts, held):
        """The parts with what the sums hold for their names."""
        found = []
        for part in parts:
            latest = [part] if isinstance(part, tuple) else held[self._loop.sums.index(part)]
            found = self._join(found, latest)
        return found

    def result(self):
        """The result of the run for this piece alone, None if there is none."""
        # In the first state all names stand for nothing. So each sum that is used has one value.
        state, held = self._effects[0]
        values = [[part[0] for part in parts if isinstance(part, tuple)] for parts in held]
        return worked_out(
            self._loop.plan.ends[state], [told[0] if told else None for told in values], self._operation
        )

    def most(self):
        """The greatest number of values in the parts of all sums together."""
        counts = [
            len([part for parts in held for part in parts if isinstance(part, tuple)])
            for _, held in self._effects.values()
        ]
        return max([int(count) for count in counts])
