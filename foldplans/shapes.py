"""Expressions as far as a kind tells them apart: equal shapes stand for expressions that agree.

A shape is a tuple of numbers: those of the letters, and the numbers below 0 of codes. Under `words` and
`bags` it is the row of the letters, without any +.
"""

from foldplans.codes import PLUS

_FLAT = ("words", "bags")


def _heavy_left(code):
    """The code with the sides of each + in a fixed order: the longer one first."""
    ready = []
    for step in code:
        if step == PLUS:
            right = ready.pop()
            left = ready.pop()
            if (len(left), left) < (len(right), right):
                left, right = right, left
            ready.append(left + right + (PLUS,))
        else:
            ready.append((step,))
    return ready[0]


def shaped(kind, code):
    """The shape of a code, or of a shape whose letters have been changed."""
    if kind == "words":
        return tuple([step for step in code if step != PLUS])
    if kind == "bags":
        return tuple(sorted([int(step) for step in code if step != PLUS]))
    if kind == "pairs":
        return _heavy_left(code)
    return tuple(code)


def renamed(kind, shape, names):
    """The shape with other numbers for its letters, which `names` tells."""
    return shaped(kind, [names[step] if step >= 0 else step for step in shape])


def put_together(kind, shapes):
    """The shape of some shapes put together."""
    found = shapes[0]
    for shape in shapes[1:]:
        found = found + shape + (() if kind in _FLAT else (PLUS,))
    return shaped(kind, found)


def code_of_shape(kind, shape):
    """A code with this shape; it needs as few brackets as can be."""
    if kind not in _FLAT:
        return shape
    return shape[:1] + tuple([step for letter in shape[1:] for step in (letter, PLUS)])


def are_side_by_side(kind, shape, one, two):
    """Whether two letters of a shape stand side by side, the first one to the left of the second."""
    if kind == "bags":
        return True
    at = shape.index(one)
    if kind == "words":
        return shape[at + 1:at + 2] == (two,)
    if shape[at + 1:at + 3] == (two, PLUS):
        return True
    return kind == "pairs" and at > 0 and shape[at - 1:at + 2] == (two, one, PLUS)


def halves(shape):
    """The left and the right side of a shape that is no single letter, under `trees` or `pairs`."""
    ready = []
    for step in shape[:-1]:
        if step == PLUS:
            right = ready.pop()
            left = ready.pop()
            ready.append(left + right + (PLUS,))
        else:
            ready.append((step,))
    return ready[0], ready[1]


def most_open(shape):
    """How many brackets the written shape has open at the same time."""
    ready = []
    for step in shape:
        if step == PLUS:
            right, is_sum = ready.pop()
            left, _ = ready.pop()
            inner = right + 1 if is_sum else right
            ready.append((left if left > inner else inner, True))
        else:
            ready.append((0, False))
    return ready[0][0]
