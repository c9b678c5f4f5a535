"""Tables for the tests, as dicts of their entries, and what they keep by the equations of the document."""

import random
from itertools import product

from foldplans.tables import Table
from tests.kinds_table import EQUATIONS, RULES


def made(size, code):
    """The table of this size with the digits of a number as its entries."""
    return Table.of(size, lambda a, b: code // size ** (a * size + b) % size)


def drawn(size, number):
    """A table that is drawn, the same one each time for the same number."""
    draw = random.Random(number)
    entries = {pair: draw.randrange(size) for pair in product(range(size), repeat=2)}
    return Table.of(size, lambda a, b: entries[a, b])


def structured():
    """Tables that keep many rules, by the operations that make them."""
    yield from (Table.of(size, max) for size in (1, 2, 5))
    yield from (Table.of(size, lambda a, b: (a + b) % size) for size in (2, 3, 6))
    yield Table.of(4, lambda a, b: a ^ b)
    yield Table.of(4, lambda a, b: a)
    yield Table.of(4, lambda a, b: b)
    yield Table.of(6, lambda a, b: a // 3 * 3 + b % 3)
    yield Table.of(3, lambda a, b: a if a else b)
    yield Table.of(3, lambda a, b: b if b else a)
    yield Table.of(9, lambda a, b: (a // 3 or b // 3) * 3 + (b % 3 or a % 3))
    yield Table.of(4, lambda a, b: 0)
    yield Table.of(5, lambda a, b: abs(a - b))


def first_break(table, rule):
    """The first triple for which an equation of a rule does not hold, or None."""
    entries = {pair: table[pair] for pair in product(range(table.size), repeat=2)}
    for triple in product(range(table.size), repeat=3):
        if not EQUATIONS[rule](lambda a, b: entries[a, b], *triple):
            return triple
    return None


def kept(table):
    """The list of the rules that a table keeps."""
    return [rule for rule in RULES if first_break(table, rule) is None]
