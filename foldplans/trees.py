"""Trees: values put together, and when two of them agree under a kind."""

from foldplans.errors import NoKind
from foldplans.remains import what_remains
from foldplans.rules import all_kinds


def _in_turn(tree):
    """The letters of a tree from left to right, and None wherever the latest two parts are joined."""
    # No recursion here or below: a tree may lean to one side for hundreds of letters.
    found = []
    waiting = [tree]
    while waiting:
        part = waiting.pop()
        if isinstance(part, tuple):
            left, right = part
            waiting.extend([None, right, left])
        else:
            found.append(part)
    return found


def letters(tree):
    """The numbers of a tree from left to right, with repetitions."""
    return [step for step in _in_turn(tree) if step is not None]


def value_of(tree, values, operation):
    """The value of a tree, where the number k stands for values[k]."""
    held = []
    for step in _in_turn(tree):
        if step is None:
            right = held.pop()
            left = held.pop()
            held.append(operation(left, right))
        else:
            held.append(values[step])
    return held[0]


def _pairs_number(tree, numbers):
    """A number for the tree; trees have the same one if they are equal up to exchanged sides.

    The dict holds the numbers that have been given; new ones are added to it.
    """
    held = []
    for step in _in_turn(tree):
        if step is None:
            right = held.pop()
            left = held.pop()
            key = (left, right) if left <= right else (right, left)
        else:
            key = step
        held.append(numbers.setdefault(key, len(numbers)))
    return held[0]


def do_agree(one, two, kind):
    """Whether two trees have the same value for each operation of the kind."""
    if kind not in all_kinds():
        raise NoKind(kind)
    if kind == "trees":
        return _in_turn(one) == _in_turn(two)
    if kind == "pairs":
        numbers = {}
        return _pairs_number(one, numbers) == _pairs_number(two, numbers)
    return what_remains(letters(one), kind) == what_remains(letters(two), kind)
