"""Other texts of a loop: written otherwise so that they agree under a kind, or with one change."""

import random

from tests.loop_texts import Busy, Draw
from tests.reference import Spelled

NAMES = ["ab", "cd", "ef", "gh", "ij", "kl", "mn", "op", "qr", "st", "uv", "wx"]


def tree_of(words):
    """The tree of an expression, with words as letters."""
    at = 0

    def part():
        nonlocal at
        at += 1
        if words[at - 1] == "(":
            found = whole()
            at += 1
            return found
        return words[at - 1]

    def whole():
        nonlocal at
        found = part()
        while at < len(words) and words[at] == "+":
            at += 1
            found = (found, part())
        return found

    return whole()


def parts_of(tree):
    """The letters of a tree from left to right."""
    return parts_of(tree[0]) + parts_of(tree[1]) if isinstance(tree, tuple) else [tree]


def words_of(tree, draw):
    """An expression of a tree; now and then with brackets that are not needed."""
    if not isinstance(tree, tuple):
        return [tree] if draw.random() < 0.9 else ["(", tree, ")"]
    left, right = words_of(tree[0], draw), words_of(tree[1], draw)
    if isinstance(tree[1], tuple):
        right = ["(", *right, ")"]
    if isinstance(tree[0], tuple) and draw.random() < 0.2:
        left = ["(", *left, ")"]
    return [*left, "+", *right]


def exchanged(tree, draw):
    if not isinstance(tree, tuple):
        return tree
    left, right = exchanged(tree[0], draw), exchanged(tree[1], draw)
    return (right, left) if draw.random() < 0.5 else (left, right)


def grouped(parts, draw):
    """Some tree with these letters."""
    if len(parts) == 1:
        return parts[0]
    at = draw.randrange(1, len(parts))
    return (grouped(parts[:at], draw), grouped(parts[at:], draw))


def other_parts(parts, kind, more, draw):
    """Other parts that agree under a kind that keeps grouping; x may be used so many times more."""
    parts = list(parts)
    if kind in ("bags", "parity", "sets"):
        draw.shuffle(parts)
    if kind == "parity" and more == 2:
        parts = [*parts, "x", "x"]
        draw.shuffle(parts)
    if "x" in parts and more:
        at = parts.index("x")
        if kind in ("middles", "heads", "tails", "sets"):
            parts.insert(at, "x")
        if kind == "heads":
            parts.append(parts.pop(at + 1))
        if kind == "tails":
            parts.insert(0, parts.pop(at + 1))
    if kind == "outer":
        parts = [parts[0], *[part for part in parts[1:-1] if draw.random() < 0.5], *parts[-1:]][:len(parts)]
    if kind == "lefts":
        parts = [parts[0], *[part for part in parts[1:] if draw.random() < 0.5]]
    if kind == "rights":
        parts = [*[part for part in parts[:-1] if draw.random() < 0.5], parts[-1]]
    if kind == "one":
        parts = draw.sample(parts, draw.randrange(1, len(parts) + 1))
    return parts


class Rewriter:
    """Writes the texts of loops otherwise, in the same way each time for the same number."""

    def __init__(self, number):
        self.draw = random.Random(number)

    def expression(self, words, kind, more=0):
        """Another expression that agrees under the kind."""
        if words == ["none"]:
            return words
        tree = tree_of(words)
        if kind == "pairs":
            tree = exchanged(tree, self.draw)
        elif kind != "trees":
            tree = grouped(other_parts(parts_of(tree), kind, more, self.draw), self.draw)
        return words_of(tree, self.draw)

    def changes(self, told, kind, doubling):
        """Other assignments that agree; with x used more often only if it may be."""
        found = []
        many = sum(words.count("x") for _, words in told)
        more = 2 - many if doubling else 0
        for name, words in told:
            words = self.expression(words, kind, more)
            many = sum(other.count("x") for _, other in told)
            more = more if words.count("x") <= many else 0
            found.append((name, words))
        self.draw.shuffle(found)
        return found

    def rewritten(self, text, kind="trees", doubling=False):
        """Another text, with other names and orders, that agrees with the loop under the kind."""
        return self.rewritten_with(text, NAMES, kind, doubling)

    def rewritten_with(self, text, names, kind="trees", doubling=False):
        """The same, with these names for the sums and states."""
        loop = Spelled(text)
        fresh = [name for name in names if name not in loop.tags]
        self.draw.shuffle(fresh)
        names = dict(zip([*loop.sums, *loop.states], fresh))
        sums = [names[name] for name in loop.sums]
        self.draw.shuffle(sums)
        rest = loop.states[1:]
        self.draw.shuffle(rest)
        lines = [" ".join(["tags", *loop.tags]), " ".join(["sums", *sums])]
        for state in [loop.states[0], *rest]:
            lines.append("state " + names[state])
            for tag in loop.tags:
                lines.append(f"on {tag} go {names[loop.goals[state, tag]]}")
                for name, words in self.changes(loop.changes[state, tag], kind, doubling):
                    words = [names.get(word, word) for word in words]
                    lines.append(" ".join([names[name], "=", *words]))
            words = [names.get(word, word) for word in self.expression(loop.ends[state], kind)]
            lines.append(" ".join(["end", *words]))
        return "\n".join(lines)

    def bent(self, text):
        """A text with one change; it may be no right one."""
        lines = text.split("\n")
        assigned = [at for at, line in enumerate(lines) if " + " in line]
        goals = [at for at, line in enumerate(lines) if line.startswith("on ")]
        choice = self.draw.random()
        if choice < 0.3 or not assigned:
            at = self.draw.choice(goals)
            states = [line.split()[1] for line in lines if line.startswith("state ")]
            lines[at] = " ".join([*lines[at].split()[:3], self.draw.choice(states)])
        else:
            at = self.draw.choice(assigned)
            words = lines[at].split()
            front = 2 if words[1] == "=" else 1
            parts = parts_of(tree_of(words[front:]))
            if choice < 0.5 and len(parts) > 1:
                parts.pop(self.draw.randrange(len(parts)))
            else:
                self.draw.shuffle(parts)
            lines[at] = " ".join([*words[:front], *words_of(grouped(parts, self.draw), self.draw)])
        return "\n".join(lines)


def drawn_text(number, items):
    """The text of a small loop that is drawn; at most so many x behind a line."""
    tags = ["t", "u", "v"][:1 + number % 3]
    sums = ["a", "b", "c"][:1 + number // 3 % 3]
    if number % 7 == 0:
        return Draw(number).careful(tags, sums, ["s", "r", "p", "q"][:1 + number // 9 % 4], items)
    return Busy(number).busy(tags, sums, ["s", "r", "p", "q"][:2 + number // 9 % 3], items)
