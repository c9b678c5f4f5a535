"""Pairs of loops that are drawn, and searches over all rows up to a length."""

from itertools import product

from foldplans.errors import FoldError
from foldplans.loops import Loop
from foldplans.rules import all_kinds
from foldplans.trees import do_agree
from tests.rewriting import Rewriter, drawn_text

LENGTHS = {0: 0, 1: 9, 2: 6, 3: 4}


def other_text(text, number, kind, items):
    """A text to be held against the first one: unlike, renamed, written otherwise, or with one change."""
    rewriter = Rewriter(number)
    choice = number % 5
    if choice == 0:
        return rewriter.rewritten(text)
    if choice == 1:
        return rewriter.rewritten(text, kind, items == 2)
    if choice == 2:
        return rewriter.bent(rewriter.rewritten(text, kind, items == 2))
    if choice == 3:
        return rewriter.bent(text)
    return drawn_text(number // 2 + 252, items)


def drawn_pairs(numbers, most=2):
    """Pairs of loops over the same tags, with the kind under which the second was perhaps written otherwise."""
    for number in numbers:
        kind = all_kinds()[number % 13]
        items = 1 if number % 2 or most == 1 else 2
        text = drawn_text(number // 2, items)
        try:
            pair = Loop(text), Loop(other_text(text, number, kind, items))
        except FoldError:
            continue
        if pair[0].tags == pair[1].tags:
            yield number, kind, *pair


def kinds_of(*loops):
    """The kinds that can be asked of these loops."""
    single = all(loop.is_single for loop in loops)
    return [kind for kind in all_kinds() if single or kind not in ("trees", "pairs")]


def rows_over(tags, length=None):
    """All rows up to a length, the shorter ones first, then in the order of the tags."""
    length = LENGTHS[len(tags)] if length is None else length
    return [list(row) for many in range(length + 1) for row in product(tags, repeat=many)]


def fit(one, two, kind):
    """Whether two results agree, None for no result."""
    if one is None or two is None:
        return one is None and two is None
    return do_agree(one, two, kind)


def parting_rows_up_to(p, q, kind, rows):
    """Those of the rows for which the results do not agree."""
    return [row for row in rows if not fit(p.tree(row), q.tree(row), kind)]


def counted(last, change):
    """The text of a loop that puts together; behind just so many items it changes its sum as told.

    Only then it has a result.
    """
    lines = ["tags t u", "sums a b"]
    for many in range(last):
        lines.append("state " + name_of(many))
        for tag in "tu":
            lines.append(f"on {tag} go {name_of(many + 1)}")
            lines.append("a = x" if many == 0 else "a = " + (change if many == last - 1 else "a + x"))
        lines.append("end none")
    for state, end in ((last, "end a" if change != "none" else "end none"), (last + 1, "end none")):
        lines += ["state " + name_of(state)]
        for tag in "tu":
            lines += [f"on {tag} go {name_of(last + 1)}", "a = none"]
        lines.append(end)
    return "\n".join(lines)


def name_of(number):
    """A name for a state."""
    return "st" + "abcdefghijklmnopqrstuvwxyz"[number]


def stepping(many, ends=None, tags="mnrs"):
    """The text of a loop with so many states in a row; each of them does the same under every tag.

    The dict tells which `end` lines are different.
    """
    lines = ["tags " + " ".join(tags), "sums a b"]
    for at in range(many):
        work = ["b = x"] if at == 0 else ["a = b", "b = x"] if at == 1 else ["a = a + b", "b = x"]
        lines.append("state " + name_of(at))
        for tag in tags:
            lines += [f"on {tag} go {name_of(min(at + 1, many - 1))}", *work]
        end = "none" if at == 0 else "b" if at == 1 else "a + b"
        lines.append("end " + (ends or {}).get(at, end))
    return "\n".join(lines)
