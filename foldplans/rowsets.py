"""Row sets: sets of rows of tags that a finite machine recognizes."""

from foldplans.errors import BadCount, NoTag, OtherTags
from foldplans.machines import (
    IN_BOTH,
    IN_EITHER,
    IN_FIRST_ALONE,
    IN_JUST_ONE,
    Machine,
    accepts_finitely,
    first_accepted,
    merged,
    opposite,
    put_behind,
    read_backwards,
)

_GREATEST_GIVEN_LENGTH = 30
_GREATEST_LENGTH = 1000


def _read_on(machine, counts):
    """How many of some rows lead to each state, one tag later; without the dead state."""
    nexts = machine.nexts
    found = {}
    for state, many in counts.items():
        for goal in nexts[state]:
            if goal in found:
                found[goal] += many
            else:
                found[goal] = many
    found.pop(machine.dead, None)
    return found


def _accepted(machine, counts):
    """How many of some rows are accepted."""
    return sum([counts[state] for state in counts if machine.accepting[state]])


def _levels_up_to(machine, k):
    """How many rows of each length lead to each state, up to the length of the row number k.

    Returns the list of the dicts, and the number of this row among those of its length; None if there
    is no such row.
    """
    levels = [{0: 1}]
    rest = k
    while rest >= _accepted(machine, levels[-1]):
        rest -= _accepted(machine, levels[-1])
        levels.append(_read_on(machine, levels[-1]))
        if not levels[-1]:
            return None
    return levels, rest


def _counts_to_the_end(machine, levels):
    """For each level a dict that tells how many ways to the last level are accepted from each state."""
    last = levels[-1]
    found = [{state: 1 if machine.accepting[state] else 0 for state in last}]
    for level in levels[-2::-1]:
        behind = found[-1]
        found.append({state: sum([behind.get(goal, 0) for goal in machine.nexts[state]]) for state in level})
    return found[::-1]


class RowSet:
    """The rows over these tags that a machine accepts; it never changes."""

    def __init__(self, tags, machine):
        self.tags = tuple(tags)
        self._machine = machine
        self._numbers = {tag: at for at, tag in enumerate(tags)}

    @classmethod
    def none(cls, tags):
        """No row."""
        return cls(tags, Machine([[0] * len(tags)], [False], 0))

    @classmethod
    def every(cls, tags):
        """All rows."""
        return cls(tags, Machine([[0] * len(tags)], [True], 0))

    @classmethod
    def with_tag(cls, tags, tag):
        """The rows in which the tag occurs."""
        if tag not in tags:
            raise NoTag(tag)
        nexts = [[1 if other == tag else 0 for other in tags], [1] * len(tags)]
        return cls(tags, Machine(nexts, [False, True], 0))

    @classmethod
    def of_length(cls, tags, n):
        """The rows of this length."""
        if not 0 <= n <= _GREATEST_GIVEN_LENGTH:
            raise BadCount(n)
        nexts = [[length + 1 if length <= n else length] * len(tags) for length in range(n + 2)]
        return cls(tags, Machine(nexts, [length == n for length in range(n + 2)], 0))

    @classmethod
    def of_rows(cls, tags, rows):
        """Exactly these rows."""
        numbers = {tag: at for at, tag in enumerate(tags)}
        # State 1 is dead; each other one stands for a beginning of some row.
        nexts = [[1] * len(tags), [1] * len(tags)]
        accepting = [False, False]
        for row in rows:
            state = 0
            for tag in row:
                if tag not in numbers:
                    raise NoTag(tag)
                if nexts[state][numbers[tag]] == 1:
                    nexts[state][numbers[tag]] = len(nexts)
                    nexts.append([1] * len(tags))
                    accepting.append(False)
                state = nexts[state][numbers[tag]]
            accepting[state] = True
        return cls(tags, Machine(nexts, accepting, 0))

    def _tag_numbers(self, row):
        """The numbers of the tags of a row."""
        for tag in row:
            if tag not in self._numbers:
                raise NoTag(tag)
        return [self._numbers[tag] for tag in row]

    def _state_behind(self, row):
        """The state of the machine behind a row."""
        state = 0
        for number in self._tag_numbers(row):
            state = self._machine.nexts[state][number]
        return state

    def behind(self, row):
        """All rows that give a row of the set if they are put behind this one."""
        start = self._state_behind(row)
        return RowSet(self.tags, Machine(self._machine.nexts, self._machine.accepting, start))

    def turned(self):
        """The rows read backwards."""
        return RowSet(self.tags, read_backwards(self._machine))

    def rank(self, row):
        """How many rows of the set come ahead of this row: shorter ones, and equally long earlier ones."""
        machine = self._machine
        state = 0
        shorter = 0
        counts = {0: 1}
        earlier = {}
        for number in self._tag_numbers(row):
            shorter += _accepted(machine, counts)
            counts = _read_on(machine, counts)
            earlier = _read_on(machine, earlier)
            for goal in machine.nexts[state][:number]:
                earlier[goal] = earlier.get(goal, 0) + 1
            state = machine.nexts[state][number]
        return shorter + _accepted(machine, earlier)

    def number(self, k):
        """The row of the set ahead of which exactly k rows of the set come, a list, or None."""
        machine = self._machine
        found = _levels_up_to(machine, k)
        if found is None:
            return None
        levels, rest = found
        row = []
        state = 0
        for counts in _counts_to_the_end(machine, levels)[1:]:
            at = 0
            while rest >= counts.get(machine.nexts[state][at], 0):
                rest -= counts.get(machine.nexts[state][at], 0)
                at += 1
            row.append(self.tags[at])
            state = machine.nexts[state][at]
        return row

    def how_many(self, n):
        """How many rows of this length belong to the set."""
        if not 0 <= n <= _GREATEST_LENGTH:
            raise BadCount(n)
        counts = {0: 1}
        for _ in range(n):
            counts = _read_on(self._machine, counts)
        return _accepted(self._machine, counts)

    def earliest(self):
        """The shortest row of the set, of several the first in the order of the tags, or None."""
        found = first_accepted(self._machine)
        return None if found is None else [self.tags[number] for number in found]

    def is_finite(self):
        """Whether finitely many rows belong to the set."""
        return accepts_finitely(self._machine)

    def least_states(self):
        """The least number of states of a machine that recognizes the set."""
        return len(self._machine.nexts)

    def __contains__(self, x):
        return self._machine.accepting[self._state_behind(x)]

    def __bool__(self):
        return any(self._machine.accepting)

    def _other_machine(self, other):
        """The machine of another set, which must be over the same tags."""
        if self.tags != other.tags:
            raise OtherTags()
        return other._machine

    def __or__(self, other):
        return RowSet(self.tags, merged(self._machine, self._other_machine(other), IN_EITHER))

    def __and__(self, other):
        return RowSet(self.tags, merged(self._machine, self._other_machine(other), IN_BOTH))

    def __sub__(self, other):
        return RowSet(self.tags, merged(self._machine, self._other_machine(other), IN_FIRST_ALONE))

    def __xor__(self, other):
        return RowSet(self.tags, merged(self._machine, self._other_machine(other), IN_JUST_ONE))

    def __invert__(self):
        return RowSet(self.tags, opposite(self._machine))

    def __add__(self, other):
        return RowSet(self.tags, put_behind(self._machine, self._other_machine(other)))

    def __eq__(self, other):
        return (
            isinstance(other, RowSet)
            and self.tags == other.tags
            and self._machine.nexts == other._machine.nexts
            and self._machine.accepting == other._machine.accepting
        )

    def __le__(self, other):
        if not isinstance(other, RowSet):
            return NotImplemented
        return not (self - other)

    def __lt__(self, other):
        if not isinstance(other, RowSet):
            return NotImplemented
        return self <= other and not self == other

    def __ge__(self, other):
        if not isinstance(other, RowSet):
            return NotImplemented
        return other <= self

    def __gt__(self, other):
        if not isinstance(other, RowSet):
            return NotImplemented
        return other < self
