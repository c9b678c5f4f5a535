"""Row sets for the tests, beside the plain set of their rows up to a length."""

import random
from itertools import product

from foldplans.rowsets import RowSet


def all_rows(tags, length):
    """All rows of at most this length as tuples, the shorter ones first, then in the order of the tags."""
    return [row for many in range(length + 1) for row in product(tags, repeat=many)]


class Bounded:
    """A row set, and the plain set of its rows of at most `length` tags."""

    def __init__(self, made, length, rows):
        self.made = made
        self.length = length
        self.rows = frozenset(row for row in rows if len(row) <= length)

    def universe(self):
        return all_rows(self.made.tags, self.length)

    def ordered(self):
        """The rows in their order."""
        return [row for row in self.universe() if row in self.rows]


def basic(tags, length, draw):
    """One of the sets that the class methods make."""
    universe = all_rows(tags, length)
    choice = draw.randrange(6)
    if choice == 0:
        return Bounded(RowSet.none(tags), length, [])
    if choice == 1:
        return Bounded(RowSet.every(tags), length, universe)
    if choice == 2:
        tag = draw.choice(tags)
        return Bounded(RowSet.with_tag(tags, tag), length, [row for row in universe if tag in row])
    if choice == 3:
        many = draw.randrange(4)
        return Bounded(RowSet.of_length(tags, many), length, [row for row in universe if len(row) == many])
    rows = [draw.choice(all_rows(tags, 4)) for _ in range(draw.randrange(5))]
    return Bounded(RowSet.of_rows(tags, [list(row) for row in rows]), length, rows)


def merged(sign, one, two):
    length = min(one.length, two.length)
    if sign == "+":
        rows = {left + right for left in one.rows for right in two.rows if len(left) + len(right) <= length}
        return Bounded(one.made + two.made, length, rows)
    if sign == "|":
        return Bounded(one.made | two.made, length, one.rows | two.rows)
    if sign == "&":
        return Bounded(one.made & two.made, length, one.rows & two.rows)
    if sign == "-":
        return Bounded(one.made - two.made, length, one.rows - two.rows)
    return Bounded(one.made ^ two.made, length, one.rows ^ two.rows)


def stepped(one, draw):
    """A set made of one other set."""
    choice = draw.randrange(3)
    if choice == 0:
        return Bounded(~one.made, one.length, set(one.universe()) - one.rows)
    if choice == 1:
        return Bounded(one.made.turned(), one.length, [row[::-1] for row in one.rows])
    tags = one.made.tags
    front = tuple(draw.choice(tags) for _ in range(draw.randrange(3)))
    length = one.length - len(front)
    rows = [row[len(front):] for row in one.rows if row[:len(front)] == front]
    return Bounded(one.made.behind(list(front)), length, rows)


def composed(tags, length, steps, number):
    """A set that is made in several steps, the same one each time for the same number."""
    draw = random.Random(number)
    found = basic(tags, length, draw)
    for _ in range(steps):
        if draw.random() < 0.4 and found.length > 4:
            found = stepped(found, draw)
        else:
            pair = [found, basic(tags, length, draw)]
            draw.shuffle(pair)
            found = merged(draw.choice("+|&-^"), *pair)
    return found


_LENGTHS = {1: 12, 2: 7, 3: 5}


def many_sets(many, steps=4):
    """Sets over one, two and three tags that are made in up to so many steps."""
    for number in range(many):
        tags = ["t", "u", "v"][:1 + number % 3]
        yield composed(tags, _LENGTHS[len(tags)], number % (steps + 1), number)
