"""What a loop does, told by numbers: its tags, sums and states are numbered in their order."""

from foldplans.bits import members_of, set_of
from foldplans.codes import letters_in, sums_in, worked_out


class Work:
    """What the assignments behind an `on` line do.

    An assignment is a tuple of a sum and a code, or None for the word `none`. `used` has the sums on the
    right sides, `needed` is the set of these; `pluses` counts their +, and `is_double` tells whether the
    item is there twice. `emptied` and `filled` are the sets of the sums that hold nothing, or something,
    behind the line, whatever they held before. What is asked for only of some loops is found out when it
    is, and kept.
    """

    def __init__(self, changes, needed, pluses, is_double):
        self.changes = changes
        self.needed = needed
        self.used = members_of(needed)
        self.pluses = pluses
        self.is_double = is_double
        self.filled = set_of([place for place, code in changes if code is not None])
        gone = set_of([place for place, code in changes if code is None])
        self.emptied = (gone | needed) & ~self.filled
        self.spelled = None
        self._sources = None

    def spell(self):
        """Finds out `spelled`: a tuple of the assignments and of the same without any +.

        In both an empty code stands for the word `none`.
        """
        written = [(place, () if code is None else code) for place, code in self.changes]
        self.spelled = (written, [(place, letters_in(code)) for place, code in written])

    def sources(self):
        """For each assignment the set of its sum and the set of those that come into it."""
        if self._sources is None:
            self._sources = [(1 << place, set_of(sums_in(code))) for place, code in self.changes]
        return self._sources


class Turn:
    """What happens behind one `on` line: the next state, and the work of the assignments."""

    def __init__(self, goal, work):
        self.goal = goal
        self.work = work
        self.changes = work.changes
        self.used = work.used

    def held_behind(self, held, item, operation):
        """What the sums hold behind an item, a new list. None stands for an empty sum."""
        slots = [*held, item]
        values = [worked_out(code, slots, operation) for _, code in self.changes]
        slots.pop()
        for place in self.used:
            slots[place] = None
        for (place, _), value in zip(self.changes, values):
            slots[place] = value
        return slots


class Plan:
    """A loop by numbers. The start has the number 0.

    `turns[state][tag]` is a Turn, `ends[state]` the code of the `end` line, or None for no result. A plan
    never changes, but `living`, `jobs` and `forms` keep what has been found out of it.
    """

    def __init__(self, tags, sums, states, turns, ends):
        self.tags = tags
        self.sums = sums
        self.states = states
        self.turns = turns
        self.ends = ends
        self.tag_numbers = {tag: at for at, tag in enumerate(tags)}
        self.living = None
        self.jobs = {}
        self.forms = {}
        self._shared = None

    def nothing_held(self):
        """What the sums hold at the beginning."""
        return [None] * len(self.sums)

    def outcome(self, state, held, operation):
        """The result of a run that ends in this state."""
        return worked_out(self.ends[state], held, operation)

    def limited_to(self, tags):
        """The plan for the lists in which only the tags with these numbers occur."""
        turns = tuple([tuple([row[tag] for tag in tags]) for row in self.turns])
        return Plan(tuple([self.tags[tag] for tag in tags]), self.sums, self.states, turns, self.ends)

    def shared_turns(self):
        """The turns; if several lines do the same, the first of them stands for all."""
        if self._shared is None:
            firsts = {}
            self._shared = [
                [firsts.setdefault((turn.goal, turn.work), turn) for turn in row] for row in self.turns
            ]
        return self._shared

    def reached(self):
        """The numbers of the states that some list reaches."""
        found = {0: True}
        waiting = [0]
        while waiting:
            state = waiting.pop()
            for turn in self.turns[state]:
                if turn.goal not in found:
                    found[turn.goal] = True
                    waiting.append(turn.goal)
        return list(found)
