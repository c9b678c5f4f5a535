"""Whether a value is a matching: a walk over the three conditions of the document, for the tests alone."""

from collections import Counter

from tests.reference import Spelled
from tests.rewriting import parts_of, tree_of


def expression(text, sums):
    """The tree of an expression over the sums, or None if the text is none."""
    if not isinstance(text, str):
        return None
    words = text.split(" ")
    opened = 0
    due = True
    for word in words:
        if due and word == "(":
            opened += 1
        elif due and word in sums:
            due = False
        elif not due and word == "+":
            due = True
        elif not due and word == ")" and opened:
            opened -= 1
        else:
            return None
        if opened > 20:
            return None
    return None if due or opened else tree_of(words)


def moved(tree, changes, used):
    """What a tree over sums becomes, or None for nothing."""
    if isinstance(tree, tuple):
        left, right = moved(tree[0], changes, used), moved(tree[1], changes, used)
        return None if left is None or right is None else (left, right)
    if tree in changes:
        return None if changes[tree] == ["none"] else tree_of(changes[tree])
    return None if tree in used else tree


def sorted_tree(tree):
    """The tree with the sides of all tuples in a fixed order."""
    if not isinstance(tree, tuple):
        return tree
    return tuple(sorted([sorted_tree(tree[0]), sorted_tree(tree[1])], key=repr))


def over_blocks(tree, sides, kind):
    """What stands for a tree over the numbers of blocks, in a fixed form; None if there is nothing."""
    if kind == "bags":
        left = Counter(parts_of(tree))
        found = Counter({"x": left.pop("x", 0)})
        for at, side in enumerate(sides):
            if left[parts_of(side)[0]]:
                found[at] = 1
                left.subtract(parts_of(side))
        return None if any(left.values()) else +found
    if kind == "words":
        row, found = parts_of(tree), []
        while row:
            fitting = [at for at, side in enumerate(sides) if row[:len(parts_of(side))] == parts_of(side)]
            if row[0] != "x" and not fitting:
                return None
            found.append("x" if row[0] == "x" else fitting[0])
            row = row[1 if row[0] == "x" else len(parts_of(sides[fitting[0]])):]
        return found

    def fixed(part):
        return sorted_tree(part) if kind == "pairs" else part

    def over(part):
        for at, side in enumerate(sides):
            if fixed(part) == fixed(side):
                return at
        if isinstance(part, tuple):
            left, right = over(part[0]), over(part[1])
            return None if left is None or right is None else (left, right)
        return "x" if part == "x" else None

    found = over(tree)
    return None if found is None else fixed(found)


class Walk:
    """The conditions, asked of a value for two loops and a kind."""

    def __init__(self, p, q, kind):
        self.loops = [Spelled(p.text), Spelled(q.text)]
        self.kind = kind

    def entry(self, told):
        """The states and the trees of the sides of an entry, or None."""
        if type(told) is not tuple or len(told) != 3 or type(told[2]) is not list:
            return None
        for state, loop in zip(told, self.loops):
            if not isinstance(state, str) or state not in loop.states:
                return None
        if any(type(block) is not tuple or len(block) != 2 for block in told[2]):
            return None
        sides = [[expression(block[at], self.loops[at].sums) for block in told[2]] for at in (0, 1)]
        for trees in sides:
            if None in trees:
                return None
            names = [name for tree in trees for name in parts_of(tree)]
            if len(set(names)) != len(names):
                return None
        return told[0], told[1], sides

    def cover(self, sides, trees):
        found = [over_blocks(tree, told, self.kind) for tree, told in zip(trees, sides)]
        return found[0] is not None and found[0] == found[1]

    def leads(self, entry, tag, other):
        """Whether the second entry is one that follows the first one for this tag."""
        if tuple(other[:2]) != tuple(loop.goals[state, tag] for loop, state in zip(self.loops, entry)):
            return False
        told = [loop.changes[state, tag] for loop, state in zip(self.loops, entry)]
        for pair in zip(*other[2]):
            trees = [
                moved(tree, dict(changes), [word for _, words in changes for word in words])
                for tree, changes in zip(pair, told)
            ]
            if None in trees or not self.cover(entry[2], trees):
                return False
        return True

    def ends(self, entry):
        told = [loop.ends[state] for loop, state in zip(self.loops, entry)]
        if ["none"] in told:
            return told[0] == told[1]
        return self.cover(entry[2], [tree_of(words) for words in told])

    def holds(self, value):
        if type(value) is not list:
            return False
        entries = [self.entry(told) for told in value]
        if None in entries:
            return False
        starts = tuple(loop.states[0] for loop in self.loops)
        if not any(entry[:2] == starts and not entry[2][0] for entry in entries):
            return False
        tags = self.loops[0].tags
        return all(
            self.ends(entry) and all(any(self.leads(entry, tag, other) for other in entries) for tag in tags)
            for entry in entries
        )
