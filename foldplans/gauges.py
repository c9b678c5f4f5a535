"""Gauges: small operations that tell results apart which do not agree under a kind.

One or a few items get a mark, all other items get what adds nothing. Two results agree under a kind
exactly if they have the same value for all ways to give the marks: then the same is left of both trees
if all other letters are left out.
"""

from foldplans.bits import has_member
from foldplans.gaugetables import TABLES

# The kinds whose gauges together are those of a kind. Two trees with different letters are equal if
# their letters stand in the same order and they are equal up to exchanged sides.
_PARTS = {
    "trees": ("words", "pairs"),
    "middles": ("heads", "tails"),
    "outer": ("lefts", "rights"),
}
# How many marks there are; for the kinds that are not told, it is one.
_MARKS = {"pairs": 3, "words": 2, "heads": 2, "tails": 2, "one": 0}


def parts_of(kind):
    """The kinds whose gauges are to be asked for a kind."""
    return _PARTS.get(kind, (kind,))


class Gauge:
    """An operation on numbers from 0 on. The items may get the values below some number, the letters.

    `rows[a][b]` is a + b. `supply[used]` has the letters that an item may get, tuples of a letter and of
    what is used up behind it; at the beginning it is 0. `marks[value]` are the marks of a value; 0 is
    the value without any.
    """

    def __init__(self, rows, many_letters, supply, marks):
        self.rows = rows
        self.many_letters = many_letters
        self.supply = supply
        self.marks = marks


def _in_order(many):
    """Each mark is used at most once, the first one first."""
    return [[(0, used), (used + 1, used + 1)] for used in range(many)] + [[(0, many)]]


def _in_any_order(many):
    """Each mark is used at most once. What is used has a bit for each mark."""
    found = []
    for used in range(1 << many):
        left = [mark for mark in range(many) if not has_member(used, mark)]
        found.append([(0, used)] + [(mark + 1, used | (1 << mark)) for mark in left])
    return found


def gauge_for(part, is_single, are_in_order):
    """The gauge of one of the parts of a kind.

    It is told whether the loops are single, and whether the marks are given in their order.
    """
    # No item is in a result of a single loop twice, or in one of another loop three times.
    name = part if part != "words" or is_single else "long words"
    marks, rows = TABLES[name]
    many = _MARKS.get(part, 1)
    supply = _in_order(many) if are_in_order else _in_any_order(many)
    return Gauge(rows, many + 1, supply, marks)


def gauge_of_table(table):
    """The gauge in which all items may have all values of a table."""
    values = list(range(table.size))
    rows = [[table[a, b] for b in values] for a in values]
    return Gauge(rows, table.size, [[(value, 0) for value in values]], [""] * table.size)
