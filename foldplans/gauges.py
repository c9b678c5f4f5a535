"""Gauges: small operations that tell results apart which do not agree under a kind.

One or a few items get a mark, all other items get what adds nothing. Two results agree under a kind
exactly if they have the same value for all ways to give the marks: then the same is left of both trees
if all other letters are left out.
"""

# The kinds whose gauges together are those of a kind. Two trees with different letters are equal if
# their letters stand in the same order and they are equal up to exchanged sides.
_PARTS = {
    "trees": ("words", "pairs"),
    "middles": ("heads", "tails"),
    "outer": ("lefts", "rights"),
}
_MARKS = {"pairs": "123", "words": "12", "heads": "12", "tails": "12", "one": ""}
_TOO_MUCH = "!"


def parts_of(kind):
    """The kinds whose gauges are to be asked for a kind."""
    return _PARTS.get(kind, (kind,))


def _has_common(one, two):
    return any([mark in two for mark in one if mark not in "()"])


def _pairs(one, two):
    """Trees up to exchanged sides, with each mark at most once."""
    if not one or not two:
        return one + two
    if _TOO_MUCH in one + two or _has_common(one, two):
        return _TOO_MUCH
    return "(" + one + two + ")" if one <= two else "(" + two + one + ")"


def _limited(text, most):
    """The text, if no mark occurs in it more often."""
    if _TOO_MUCH in text or any([text.count(mark) > most for mark in "12"]):
        return _TOO_MUCH
    return text


def _words(one, two):
    """Rows with each mark at most once: an item is in no result of a single loop twice."""
    return _limited(one + two, 1)


def _long_words(one, two):
    """Rows with each mark at most twice: so often an item can be in the result of any loop."""
    return _limited(one + two, 2)


def _bags(one, two):
    return "11" if one + two == "111" or one + two == "1111" else one + two


def _parity(one, two):
    return "" if one == two else "1"


def _heads(one, two):
    return one + "".join([mark for mark in two if mark not in one])


def _tails(one, two):
    return "".join([mark for mark in one if mark not in two]) + two


def _sets(one, two):
    return "1" if one + two else ""


def _lefts(one, two):
    return one


def _rights(one, two):
    return two


_JOINS = {
    "pairs": _pairs,
    "words": _words,
    "bags": _bags,
    "parity": _parity,
    "heads": _heads,
    "tails": _tails,
    "sets": _sets,
    "lefts": _lefts,
    "rights": _rights,
    "one": _lefts,
}


class Gauge:
    """An operation on numbers from 0 on, and the letters: the numbers that items may get.

    `rows[a][b]` is a + b. `supply[used][letter]` tells what is used up behind an item with this letter,
    or None if an item may not get it there; at the beginning it is 0. `marks[value]` are the marks
    of a value; 0 is the value without any.
    """

    def __init__(self, rows, letters, supply, marks):
        self.rows = rows
        self.letters = letters
        self.supply = supply
        self.marks = marks


def _in_order(many):
    """Each mark is used at most once, the first one first."""
    found = []
    for used in range(many + 1):
        found.append([used] + [mark if mark == used + 1 else None for mark in range(1, many + 1)])
    return found


def _in_any_order(many):
    """Each mark is used at most once. What is used has a bit for each mark."""
    found = []
    for used in range(1 << many):
        bits = [1 << mark for mark in range(many)]
        found.append([used] + [None if used & bit else used | bit for bit in bits])
    return found


def _values_from(letters, join):
    """All values that can be put together of these letters."""
    found = list(letters)
    known = {value: True for value in found}
    at = 0
    while at < len(found):
        latest = found[at]
        at += 1
        made = [join(latest, other) for other in found[:at]] + [join(other, latest) for other in found[:at]]
        for value in made:
            if value not in known:
                known[value] = True
                found.append(value)
    return found


def gauge_for(part, is_single, are_in_order):
    """The gauge of one of the parts of a kind.

    It is told whether the loops are single, and whether the marks are given in their order.
    """
    join = _JOINS[part]
    if part == "words" and not is_single:
        join = _long_words
    marks = _MARKS.get(part, "1")
    values = _values_from([""] + list(marks), join)
    numbers = {value: at for at, value in enumerate(values)}
    rows = [[numbers[join(one, two)] for two in values] for one in values]
    many = len(marks)
    supply = _in_order(many) if are_in_order else _in_any_order(many)
    marks_of_values = ["".join([mark for mark in marks if mark in value]) for value in values]
    return Gauge(rows, list(range(many + 1)), supply, marks_of_values)


def gauge_of_table(table):
    """The gauge in which all items may have all values of a table."""
    letters = list(range(table.size))
    rows = [[table[a, b] for b in letters] for a in letters]
    return Gauge(rows, letters, [[0] * table.size], [""] * table.size)
