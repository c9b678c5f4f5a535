"""Trees: values put together, and when two of them agree under a kind."""

from foldplans.errors import NoKind
from foldplans.rules import all_kinds


def _in_turn(tree):
    """The letters of a tree from left to right, and None wherever the latest two parts are joined."""
    # No recursion here or below: a tree may lean to one side for hundreds of letters.
    found = []
    waiting = [tree]
    while waiting:
        part = waiting.pop()
        if isinstance(part, tuple):
            left, right = part
            waiting.extend([None, right, left])
        else:
            found.append(part)
    return found


def letters(tree):
    """The numbers of a tree from left to right, with repetitions."""
    return [step for step in _in_turn(tree) if step is not None]


def value_of(tree, values, operation):
    """The value of a tree, where the number k stands for values[k]."""
    held = []
    for step in _in_turn(tree):
        if step is None:
            right = held.pop()
            left = held.pop()
            held.append(operation(left, right))
        else:
            held.append(values[step])
    return held[0]


def _pairs_number(tree, numbers):
    """A number for the tree; trees have the same one if they are equal up to exchanged sides.

    The dict holds the numbers that have been given; new ones are added to it.
    """
    held = []
    for step in _in_turn(tree):
        if step is None:
            right = held.pop()
            left = held.pop()
            key = (left, right) if left <= right else (right, left)
        else:
            key = step
        held.append(numbers.setdefault(key, len(numbers)))
    return held[0]


def _row(row):
    return row


def _counts(row):
    counts = {}
    for letter in row:
        counts[letter] = counts.get(letter, 0) + 1
    return counts


def _odd_ones(row):
    odd = {}
    for letter in row:
        if letter in odd:
            del odd[letter]
        else:
            odd[letter] = True
    return odd


def _members(row):
    return {letter: True for letter in row}


def _first_places(row):
    """Each letter where it occurs first."""
    return list(_members(row))


def _last_places(row):
    """Each letter where it occurs last, from right to left."""
    return list(_members(row[::-1]))


def _both_places(row):
    return [_first_places(row), _last_places(row)]


def _left_end(row):
    return row[0]


def _right_end(row):
    return row[-1]


def _both_ends(row):
    return [row[0], row[-1]]


def _nothing(row):
    return 0


# What remains of the letters of a tree: two trees agree under the kind if it is equal for both.
_REMAINS = {
    "words": _row,
    "bags": _counts,
    "parity": _odd_ones,
    "middles": _both_places,
    "heads": _first_places,
    "tails": _last_places,
    "sets": _members,
    "outer": _both_ends,
    "lefts": _left_end,
    "rights": _right_end,
    "one": _nothing,
}


def do_agree(one, two, kind):
    """Whether two trees have the same value for each operation of the kind."""
    if kind not in all_kinds():
        raise NoKind(kind)
    if kind == "trees":
        return _in_turn(one) == _in_turn(two)
    if kind == "pairs":
        numbers = {}
        return _pairs_number(one, numbers) == _pairs_number(two, numbers)
    remains = _REMAINS[kind]
    return remains(letters(one)) == remains(letters(two))
