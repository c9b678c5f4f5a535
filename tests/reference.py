"""Runs of loops as the document tells them, written for the tests alone: right texts, no care for time."""

from itertools import product


class UsesEmpty(Exception):
    """A right side or an `end` line uses an empty sum."""


class Spelled:
    """A right text of a loop, cut into its words."""

    def __init__(self, text):
        lines = [line.split() for line in text.split("\n")]
        self.tags = lines[0][1:]
        self.sums = lines[1][1:]
        self.states = []
        self.goals = {}
        self.changes = {}
        self.ends = {}
        for words in lines[2:]:
            self.take(words)

    def take(self, words):
        if words[0] == "state":
            self.states.append(words[1])
        elif words[0] == "on":
            self.turn = (self.states[-1], words[1])
            self.goals[self.turn] = words[3]
            self.changes[self.turn] = []
        elif words[0] == "end":
            self.ends[self.states[-1]] = words[1:]
        else:
            self.changes[self.turn].append((words[0], words[2:]))


def value(words, held, item, operation):
    """The value of an expression; None for the word none."""
    at = 0

    def part():
        nonlocal at
        word = words[at]
        at += 1
        if word == "(":
            found = whole()
            at += 1
            return found
        if word == "x":
            return item
        if word not in held:
            raise UsesEmpty()
        return held[word]

    def whole():
        nonlocal at
        found = part()
        while at < len(words) and words[at] == "+":
            at += 1
            found = operation(found, part())
        return found

    return None if words == ["none"] else whole()


def walk(text, items, operation):
    """The states and what the sums hold, for the beginning and behind each item."""
    loop = Spelled(text)
    state, held = loop.states[0], {}
    found = [(state, held)]
    for tag, item in items:
        changes = loop.changes[state, tag]
        values = [value(words, held, item, operation) for _, words in changes]
        used = {word for _, words in changes for word in words}
        held = {name: worth for name, worth in held.items() if name not in used}
        for (name, _), worth in zip(changes, values):
            held.pop(name, None)
            if worth is not None:
                held[name] = worth
        state = loop.goals[state, tag]
        found.append((state, held))
    return found


def run(text, items, operation):
    """The result of a run."""
    state, held = walk(text, items, operation)[-1]
    return value(Spelled(text).ends[state], held, None, operation)


def tree(text, row):
    """The result of a row of tags."""
    return run(text, [(tag, at) for at, tag in enumerate(row)], lambda x, y: (x, y))


def rows_up_to(tags, length):
    """All rows of at most this length, the shorter ones first, then in the order of the tags."""
    return [list(row) for many in range(length + 1) for row in product(tags, repeat=many)]


def first_empty(text, length):
    """The first row of at most this length whose run uses an empty sum, or None."""
    for row in rows_up_to(Spelled(text).tags, length):
        try:
            tree(text, row)
        except UsesEmpty:
            return row
    return None


def cost(text, row):
    """How many + a run computes."""
    calls = []
    run(text, [(tag, 0) for tag in row], lambda x, y: calls.append(0) or 0)
    return len(calls)


def waste(text, row):
    """How many of them are not in the result."""

    def joins(part):
        return 1 + joins(part[0]) + joins(part[1]) if isinstance(part, tuple) else 0

    found = tree(text, row)
    return cost(text, row) - (0 if found is None else joins(found))
