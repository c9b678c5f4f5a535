"""Machines for what may happen in several ways: a tag leads to several numbers at once.

`images[tag][number]` is the set of the numbers that can follow. A row is accepted if one of its ways from
the number 0 ends in one of the accepting numbers.
"""

from foldplans.bits import has_member, set_of, union_of
from foldplans.machines import Machine

_FIRST_LIMIT = 200


def _lasting(images, accepting):
    """The numbers from which each row is accepted, as far as one way alone tells it."""
    found = accepting
    before = 0
    while before != found:
        before = found
        staying = [
            number for number in range(len(images[0]))
            if has_member(before, number) and all([table[number] & before != 0 for table in images])
        ]
        found = set_of(staying)
    return found


class Walked:
    """Sets of numbers that are reached from a first one; each of them gets a number of its own."""

    def __init__(self, first):
        self.sets = [first]
        self.numbers = {first: 0}

    def number(self, members):
        """The number of a set."""
        if members not in self.numbers:
            self.numbers[members] = len(self.sets)
            self.sets.append(members)
        return self.numbers[members]


def _walked(first, images, lasting, limit):
    """The sets that are reached and the rows of those that follow; None if there are too many of them.

    Each set with a lasting number counts as the set of these.
    """
    found = Walked(lasting if first & lasting else first)
    nexts = []
    while len(nexts) < len(found.sets):
        if len(found.sets) > limit:
            return None
        row = []
        for table in images:
            later = union_of(table, found.sets[len(nexts)])
            row.append(found.number(lasting if later & lasting else later))
        nexts.append(row)
    return found.sets, nexts


def _turned(images):
    """The images for the ways that are gone backwards."""
    found = [[0] * len(table) for table in images]
    for tag, table in enumerate(images):
        for number, members in enumerate(table):
            left = members
            while left:
                lowest = left & -left
                found[tag][lowest.bit_length() - 1] = found[tag][lowest.bit_length() - 1] | (1 << number)
                left = left ^ lowest
    return found


def _forwards(images, accepting, limit):
    """The machine, by the sets that rows lead to; None if there are too many of them."""
    walked = _walked(1, images, _lasting(images, accepting), limit)
    if walked is None:
        return None
    sets, nexts = walked
    return Machine(nexts, [members & accepting != 0 for members in sets], 0)


def _backwards(images, accepting, limit):
    """The machine, by the sets from which rows are accepted; None if there are too many of them."""
    walked = _walked(accepting, _turned(images), 0, limit)
    if walked is None:
        return None
    sets, nexts = walked
    first = set_of([number for number, members in enumerate(sets) if has_member(members, 0)])
    tables = [[1 << row[tag] for row in nexts] for tag in range(len(images))]
    sets, nexts = _walked(first, _turned(tables), 0, 1 << len(sets))
    return Machine(nexts, [has_member(members, 0) for members in sets], 0)


def determined(images, accepting):
    """The machine for the rows that are accepted."""
    # One of the two directions may need far more sets than the other; it is not known which.
    limit = _FIRST_LIMIT
    found = None
    while found is None:
        found = _forwards(images, accepting, limit)
        if found is None:
            found = _backwards(images, accepting, limit)
        limit = limit * 2
    return found
