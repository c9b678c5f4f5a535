"""The table of the kinds and the rules as equations, written for the tests alone."""

from itertools import product

RULES = "grouping order middle first last ends keep take vanish".split()

# A column a kind, a row a rule: the sign x where the kind has the rule.
_KINDS = "trees pairs words bags parity middles heads tails sets outer lefts rights one".split()
_GRID = """
grouping  ..xxxxxxxxxxx
order     .x.xx...x...x
middle    .....xxxxxxxx
first     ......x.x.x.x
last      .......xx..xx
ends      .........xxxx
keep      ..........x.x
take      ...........xx
vanish    ....x.......x
"""


def kinds():
    """A dict from each kind, in order, to the list of its rules."""
    grid = [line.split() for line in _GRID.split("\n") if line]
    return {kind: [rule for rule, signs in grid if signs[at] == "x"] for at, kind in enumerate(_KINDS)}


def all_sets():
    """All 512 sets of rules, each as a list in the order of the rules."""
    return [[rule for rule, chosen in zip(RULES, picks) if chosen] for picks in product([0, 1], repeat=9)]


def implied(names):
    """What all kinds with these rules have in common."""
    having = [rules for rules in kinds().values() if set(names) <= set(rules)]
    return [rule for rule in RULES if all(rule in rules for rules in having)]


def kind_of(names):
    """The kind that has exactly the implied rules."""
    [kind] = [kind for kind, rules in kinds().items() if rules == implied(names)]
    return kind


def _grouping(p, x, y, z):
    return p(p(x, y), z) == p(x, p(y, z))


EQUATIONS = {
    "grouping": _grouping,
    "order": lambda p, x, y, z: p(x, y) == p(y, x),
    "middle": lambda p, x, y, z: _grouping(p, x, y, z) and p(x, x) == x
    and p(p(p(p(x, y), x), z), x) == p(p(p(x, y), z), x),
    "first": lambda p, x, y, z: _grouping(p, x, y, z) and p(x, x) == x and p(p(x, y), x) == p(x, y),
    "last": lambda p, x, y, z: _grouping(p, x, y, z) and p(x, x) == x and p(p(x, y), x) == p(y, x),
    "ends": lambda p, x, y, z: _grouping(p, x, y, z) and p(x, x) == x and p(p(x, y), z) == p(x, z),
    "keep": lambda p, x, y, z: p(x, y) == x,
    "take": lambda p, x, y, z: p(x, y) == y,
    "vanish": lambda p, x, y, z: _grouping(p, x, y, z) and p(p(x, x), y) == y and p(p(y, x), x) == y,
}


def kept_by(operation, values):
    """The list of the rules that an operation on these values keeps."""
    triples = list(product(values, repeat=3))
    return [rule for rule in RULES if all(EQUATIONS[rule](operation, *triple) for triple in triples)]
