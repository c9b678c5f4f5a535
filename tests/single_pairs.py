"""Pairs of single loops that are drawn, for the four kinds with normal forms."""

from foldplans.errors import FoldError
from foldplans.loops import Loop
from tests.loop_texts import Busy
from tests.rewriting import Rewriter, drawn_text

KINDS = ["trees", "pairs", "words", "bags"]


def with_more(text):
    """The text with a sum and a state more, which are never needed."""
    lines = text.split("\n")
    tags = lines[0].split()[1:]
    lines[1] += " more"
    lines.append("state extra")
    for tag in tags:
        lines += [f"on {tag} go extra", "more = x"]
    return "\n".join([*lines, "end none"])


def with_busy_sum(text):
    """The text with a sum more that holds the latest item and comes into no result."""
    lines = []
    for line in text.split("\n"):
        lines.append(line + " more" if line.startswith("sums") else line)
        if line.startswith("on ") and " x" not in line:
            lines.append("more = none")
    return "\n".join(lines)


def other_single(text, number, kind):
    """A text to be held against the first one."""
    rewriter = Rewriter(number)
    choice = number % 7
    if choice == 0:
        return rewriter.rewritten(text)
    if choice == 1:
        return rewriter.rewritten(with_more(text), kind)
    if choice == 2:
        return rewriter.rewritten(with_busy_sum(text), kind)
    if choice == 3:
        return rewriter.rewritten(text, kind)
    if choice == 4:
        return rewriter.bent(rewriter.rewritten(text, kind))
    if choice == 5:
        return rewriter.bent(text)
    return drawn_text(number + 252, 1)


def single_pairs(numbers):
    """Tuples of a number, a kind and two single loops over the same tags."""
    for number in numbers:
        kind = KINDS[number // 7 % 4]
        text = drawn_text(number // 2, 1)
        try:
            pair = Loop(text), Loop(other_single(text, number, kind))
        except FoldError:
            continue
        if pair[0].tags == pair[1].tags:
            yield number, kind, *pair


def great_pairs(numbers):
    """The same with four sums and six states."""
    for number in numbers:
        kind = KINDS[number // 7 % 4]
        tags = ["t", "u", "v"][:1 + number % 3]
        text = Busy(number).busy(tags, ["a", "b", "c", "d"], ["s", "r", "p", "q", "o", "n"])
        try:
            yield number, kind, Loop(text), Loop(other_single(text, number if number % 7 < 6 else number - 1, kind))
        except FoldError:
            continue


def quad(order, lines):
    """A loop that puts four items together two and two, in one way or the other.

    So its sums can be exchanged with one another two and two. The lines are what is done for the tag v.
    """
    one, two, three, four = order
    text = ["tags t u v", "sums a b c d"]
    names = ["s", "p", "q", "r", "f"]
    for at, name in enumerate(order):
        text += [f"state {names[at]}", f"on t go {names[at + 1]}", f"{name} = x"]
        text += [f"on {tag} go {names[at]}" for tag in "uv"] + ["end none"]
    text += ["state f", "on t go g", f"{one} = ( {one} + {three} ) + ( {two} + {four} )"]
    text += ["on u go g", f"{one} = ( {one} + {four} ) + ( {two} + {three} )"]
    text += ["on v go f", *lines, "end none"]
    text += ["state g", *[f"on {tag} go g" for tag in "tuv"], f"end {one}"]
    return Loop("\n".join(text))


def comb(parts):
    """The parts put together from the right."""
    if len(parts) < 3:
        return " + ".join(parts)
    return parts[0] + "".join(" + ( " + part for part in parts[1:-1]) + " + " + parts[-1] + " )" * (len(parts) - 2)
