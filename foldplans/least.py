"""How few sums a single loop needs, and the loop that needs no more."""

from foldplans.apart import tails_for, widest
from foldplans.checks import check_normal
from foldplans.forms import form_of
from foldplans.likeness import Likeness
from foldplans.shapes import code_of_shape, renamed
from foldplans.splitting import split_up
from foldplans.writing import loop_of


def width(loop, kind):
    """The least number of sums of a single loop that agrees with this one."""
    check_normal([loop], kind)
    return form_of(loop.plan, kind).greatest_size()


class Naming:
    """The states that are met from the start, those that are alike once, with an order of their blocks.

    `chosen[number]` is a tuple of a state of the form and of the numbers that its blocks get, a list.
    What comes first depends on what the loop gives alone, not on how it is written.
    """

    def __init__(self, form):
        self.form = form
        self.likeness = Likeness(form)
        self.chosen = [(0, [])]
        self.turns = []
        while len(self.turns) < len(self.chosen):
            state, numbers = self.chosen[len(self.turns)]
            row = form.turns[state]
            self.turns.append([self._turn(goal, self._in_numbers(contents, numbers)) for goal, contents in row])

    def _in_numbers(self, contents, numbers):
        """The contents with the numbers of the blocks."""
        return [renamed(self.form.under, shape, numbers) for shape in contents]

    def _turn(self, goal, contents):
        """The number of the next state, and the contents of its blocks in their order."""
        for number, (state, numbers) in enumerate(list(self.chosen)):
            ways = self.likeness.ways(goal, state)
            if ways:
                return number, self._least(contents, [[numbers[block] for block in way] for way in ways])
        texts = {str(shape): block for block, shape in enumerate(contents)}
        ordered = [texts[text] for text in sorted([str(told) for told in texts])]
        places = {block: at for at, block in enumerate(ordered)}
        self.chosen.append((goal, [places[block] for block in range(len(contents))]))
        return len(self.chosen) - 1, [contents[block] for block in ordered]

    def _least(self, contents, ways):
        """The contents in the order of the numbers; of several ways the one that is told first."""
        found = {}
        for way in ways:
            ordered = [()] * len(way)
            for shape, number in zip(contents, way):
                ordered[number] = shape
            found[str(ordered)] = ordered
        return found[sorted([str(text) for text in found])[0]]

    def end_shapes(self):
        """The results of the states."""
        found = []
        for state, numbers in self.chosen:
            end = self.form.ends[state]
            found.append(None if end is None else renamed(self.form.under, end, numbers))
        return found


def _assignments(kind, contents):
    """The assignments for the contents of the sums; a sum that keeps what it holds needs none."""
    return [(at, code_of_shape(kind, shape)) for at, shape in enumerate(contents) if shape != (at,)]


def normal_form(loop, kind):
    """The loop with fewest sums and states that agrees with this one, always the same one."""
    check_normal([loop], kind)
    form = form_of(loop.plan, kind)
    naming = Naming(form)
    rows = naming.turns
    shapes = naming.end_shapes()
    if kind == "trees":
        rows, shapes = split_up(rows, shapes)
    turns = [[(goal, _assignments(kind, contents)) for goal, contents in row] for row in rows]
    ends = [None if end is None else code_of_shape(kind, end) for end in shapes]
    return loop_of(loop.tags, form.greatest_size(), turns, ends)


def held_apart(loop, kind):
    """A row, positions of it, and rows that follow, which show that no loop does with fewer sums."""
    check_normal([loop], kind)
    form = form_of(loop.plan, kind)
    state, row, places = widest(form)
    blocks = {place: block for block, place in enumerate(places)}
    positions = sorted(places, key=int)
    tails = {}
    for at, left in enumerate(positions):
        for right in positions[at + 1:]:
            told = tails_for(form, state, blocks[left], blocks[right])
            tails[left, right] = [[loop.tags[tag] for tag in tail] for tail in told]
    return [loop.tags[tag] for tag in row], positions, tails
