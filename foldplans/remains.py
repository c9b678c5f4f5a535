"""What remains of a row of letters under a kind: two rows agree if the same remains of both."""


def _row(row):
    return row


def _counts(row):
    counts = {}
    for letter in row:
        counts[letter] = counts.get(letter, 0) + 1
    return counts


def _odd_ones(row):
    odd = {}
    for letter in row:
        if letter in odd:
            del odd[letter]
        else:
            odd[letter] = True
    return odd


def _members(row):
    return {letter: True for letter in row}


def _first_places(row):
    """Each letter where it occurs first."""
    return list(_members(row))


def _last_places(row):
    """Each letter where it occurs last, from right to left."""
    return list(_members(row[::-1]))


def _both_places(row):
    return [_first_places(row), _last_places(row)]


def _left_end(row):
    return row[0]


def _right_end(row):
    return row[-1]


def _both_ends(row):
    return [row[0], row[-1]]


def _nothing(row):
    return 0


_REMAINS = {
    "words": _row,
    "bags": _counts,
    "parity": _odd_ones,
    "middles": _both_places,
    "heads": _first_places,
    "tails": _last_places,
    "sets": _members,
    "outer": _both_ends,
    "lefts": _left_end,
    "rights": _right_end,
    "one": _nothing,
}


def what_remains(row, kind):
    """What remains of the letters of a tree under a kind other than trees and pairs."""
    remains = _REMAINS[kind]
    return remains(row)


def _least_by_numbers(one, two, firsts, others):
    """That of bags and parity, in a list, which is among the least kinds; the members are told, too."""
    if len(firsts) == len(one) and len(others) == len(two):
        return ["bags"] if firsts == others else []
    if len(one) == len(two) and _counts(one) == _counts(two):
        return ["bags"]
    return ["parity"] if _odd_ones(one) == _odd_ones(two) else []


def _least_by_ends(one, two, are_heads, are_tails):
    """Those of outer, lefts and rights that are among the least kinds; it is told of heads and tails."""
    is_left = one[0] == two[0]
    is_right = one[-1] == two[-1]
    if is_left and is_right:
        return ["outer"]
    if is_left and not are_heads:
        return ["lefts"]
    return ["rights"] if is_right and not are_tails else []


def least_of_unlike(one, two, are_turned):
    """The least kinds under which two trees agree whose rows of letters are not the same.

    It is told whether they agree under pairs. If that is left out of account, they count as if not.
    """
    # This is asked so often that no kind is looked at of which a weaker one tells.
    firsts = _members(one)
    others = _members(two)
    found = ["pairs"] if are_turned else _least_by_numbers(one, two, firsts, others)
    are_heads = False
    are_tails = False
    if firsts == others:
        are_heads = list(firsts) == list(others)
        are_tails = _last_places(one) == _last_places(two)
        if are_heads and are_tails:
            return found + ["middles"]
        if are_heads or are_tails:
            found.append("heads" if are_heads else "tails")
        elif found in ([], ["parity"]):
            found.append("sets")
    found.extend(_least_by_ends(one, two, are_heads, are_tails))
    return found if found else ["one"]
