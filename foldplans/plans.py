"""What a loop does, told by numbers: its tags, sums and states are numbered in their order."""

from foldplans.bits import members_of, set_of
from foldplans.codes import worked_out


class Work:
    """What the assignments behind an `on` line do.

    An assignment is a tuple of a sum and a code, or None for the word `none`. `used` has the sums on the
    right sides, `needed` is the set of these; `pluses` counts their +, and `is_double` tells whether the
    item is there twice. `emptied` and `filled` are the sets of the sums that hold nothing, or something,
    behind the line, whatever they held before.
    """

    def __init__(self, changes, needed, pluses, is_double):
        self.changes = changes
        self.needed = needed
        self.used = members_of(needed)
        self.pluses = pluses
        self.is_double = is_double
        self.filled = set_of([place for place, code in changes if code is not None])
        gone = set_of([place for place, code in changes if code is None])
        self.emptied = (gone | needed) & ~self.filled


class Turn:
    """What happens behind one `on` line: the next state, and the work of the assignments."""

    def __init__(self, goal, work):
        self.goal = goal
        self.work = work
        self.changes = work.changes
        self.used = work.used
        self.pluses = work.pluses
        self.is_double = work.is_double

    def held_behind(self, held, item, operation):
        """What the sums hold behind an item, a new list. None stands for an empty sum."""
        values = [worked_out(code, held, item, operation) for _, code in self.changes]
        after = list(held)
        for place in self.used:
            after[place] = None
        for (place, _), value in zip(self.changes, values):
            after[place] = value
        return after


class Plan:
    """A loop by numbers. The start has the number 0.

    `turns[state][tag]` is a Turn, `ends[state]` the code of the `end` line, or None for no result.
    """

    def __init__(self, tags, sums, states, turns, ends):
        self.tags = tags
        self.sums = sums
        self.states = states
        self.turns = turns
        self.ends = ends
        self.tag_numbers = {tag: at for at, tag in enumerate(tags)}

    def nothing_held(self):
        """What the sums hold at the beginning."""
        return [None] * len(self.sums)

    def outcome(self, state, held, operation):
        """The result of a run that ends in this state."""
        return worked_out(self.ends[state], held, None, operation)

    def limited_to(self, tags):
        """The plan for the lists in which only the tags with these numbers occur."""
        turns = tuple([tuple([row[tag] for tag in tags]) for row in self.turns])
        return Plan(tuple([self.tags[tag] for tag in tags]), self.sums, self.states, turns, self.ends)

    def reached(self):
        """The numbers of the states that some list reaches."""
        found = {0: True}
        waiting = [0]
        while waiting:
            state = waiting.pop()
            for turn in self.turns[state]:
                if turn.goal not in found:
                    found[turn.goal] = True
                    waiting.append(turn.goal)
        return list(found)
