"""Expressions as codes: both sides of a + stand ahead of it, the left one first.

A code is a tuple of numbers: the number of a sum, or one of the two numbers below 0.
"""

ITEM = -1
PLUS = -2
MOST_OPEN = 20


def code_of(words, places):
    """The code of a row of words, or None if it is no expression.

    The dict tells the number of each word that may be a part.
    """
    code = []
    joined = False
    outer = []
    part_is_due = True
    for word in words:
        if part_is_due and word == "(" and len(outer) < MOST_OPEN:
            # Whether a + waits for what stands in the brackets is known again when they close.
            outer.append(joined)
            joined = False
        elif part_is_due and word in places:
            code.append(places[word])
            part_is_due = False
        elif not part_is_due and word == "+":
            joined = True
            part_is_due = True
        elif not part_is_due and word == ")" and outer:
            joined = outer.pop()
        else:
            return None
        if joined and not part_is_due:
            code.append(PLUS)
            joined = False
    if part_is_due or outer:
        return None
    return tuple(code)


def sums_in(code):
    """The numbers of the sums in a code that may be None."""
    if code is None:
        return []
    return [step for step in code if step >= 0]


def letters_in(code):
    """What a code puts together: its steps but each +, a tuple."""
    return tuple([step for step in code if step != PLUS])


def pluses_in(code):
    """How many + a code has that may be None."""
    if code is None:
        return 0
    return code.count(PLUS)


def depths_in(code):
    """The parts of a code that may be None, tuples of a number and of how many + it stands in."""
    if code is None:
        return []
    ready = []
    for step in code:
        if step == PLUS:
            right = ready.pop()
            left = ready.pop()
            ready.append([(part, depth + 1) for part, depth in left + right])
        else:
            ready.append([(step, 0)])
    return ready[0]


def worked_out(code, slots, operation):
    """The value of a code; the slots are what the sums hold, and behind them the item.

    It is None if the code is None.
    """
    if code is None:
        return None
    # The number of the item stands for the last slot. Most codes are a single part, or two of them.
    if len(code) == 1:
        return slots[code[0]]
    if len(code) == 3:
        return operation(slots[code[0]], slots[code[1]])
    ready = []
    for step in code:
        if step == PLUS:
            right = ready.pop()
            left = ready.pop()
            ready.append(operation(left, right))
        else:
            ready.append(slots[step])
    return ready[0]
