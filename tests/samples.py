"""Trees for the tests, and a limit for what has to be told soon."""

import signal


class Soon:
    """A block that fails if it is not done after a few seconds."""

    def __init__(self, seconds=10):
        self.seconds = seconds

    def __enter__(self):
        self.before = signal.signal(signal.SIGALRM, self.ring)
        signal.alarm(self.seconds)

    def __exit__(self, *told):
        signal.alarm(0)
        signal.signal(signal.SIGALRM, self.before)

    def ring(self, *told):
        raise AssertionError(f"not done after {self.seconds} seconds")


def left_comb(row):
    """((a + b) + c) + .."""
    tree = row[0]
    for letter in row[1:]:
        tree = (tree, letter)
    return tree


def right_comb(row):
    """a + (b + (c + ..))"""
    tree = row[-1]
    for letter in row[-2::-1]:
        tree = (letter, tree)
    return tree


def even_tree(row):
    """A tree that is equally high everywhere; the row has a power of 2 as its length."""
    parts = list(row)
    while len(parts) > 1:
        parts = list(zip(parts[::2], parts[1::2]))
    return parts[0]


def turned(tree, every):
    """The tree with the sides of each tuple exchanged whose number in a walk `every` divides."""
    count = 0

    def walk(part):
        nonlocal count
        if not isinstance(part, tuple):
            return part
        count += 1
        exchanged = count % every == 0
        left, right = walk(part[0]), walk(part[1])
        return (right, left) if exchanged else (left, right)

    return walk(tree)


def trees_over(alphabet, most):
    """All trees of at most so many letters from the alphabet."""
    by_size = [[], list(alphabet)]
    for size in range(2, most + 1):
        by_size.append(
            [(one, two) for k in range(1, size) for one in by_size[k] for two in by_size[size - k]]
        )
    return [tree for trees in by_size for tree in trees]
