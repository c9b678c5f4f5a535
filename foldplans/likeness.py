"""Which states of forms lead to the same results, with their blocks exchanged one to one."""

from foldplans.shapes import renamed


def _matched(kind, left, right, names):
    """Which content on the right is like which one on the left, a tuple; None if they are not alike.

    `names` tells for each letter on the left the one on the right.
    """
    places = {shape: at for at, shape in enumerate(right)}
    found = [places.get(renamed(kind, shape, names)) for shape in left]
    if len(left) != len(right) or any([place is None for place in found]):
        return None
    return tuple(found)


def _ends_alike(one, two, triple):
    """Whether the results at once are alike."""
    state, other, names = triple
    left = one.ends[state]
    right = two.ends[other]
    if left is None or right is None:
        return left is None and right is None
    return renamed(one.under, left, names) == right


def likeness(one, two, first):
    """All that has to be alike if two states of two forms are, a dict; None if something is not.

    A triple is a state of the first form, one of the second, and a tuple that tells for each block of
    the one state which block of the other it is like. It is known what follows from the first triple.
    """
    found = {first: True}
    waiting = [first]
    while waiting:
        triple = waiting.pop()
        if not _ends_alike(one, two, triple):
            return None
        state, other, names = triple
        # Of tags with the same two branches one is enough.
        pairs = {pair: True for pair in zip(one.choices[state], two.choices[other])}
        for choice, likewise in pairs:
            goal, contents = one.branches[state][choice]
            aim, others = two.branches[other][likewise]
            matched = _matched(one.under, contents, others, names)
            if matched is None:
                return None
            behind = (goal, aim, matched)
            if behind not in found:
                found[behind] = True
                waiting.append(behind)
    return found


def _numbered(keys, numbers):
    """Equal keys get equal numbers, which the dict keeps."""
    return [numbers.setdefault(key, len(numbers)) for key in keys]


def _seen_from(kind, shape, block, colours):
    """The shape with colours for its letters, and a mark for one of them; None if it is not there."""
    if shape is None or block not in shape:
        return None
    names = {step: 2 * colours[step] for step in shape if step >= 0}
    names[block] = names[block] + 1
    return renamed(kind, shape, names)


def _views(form, state, block, colours):
    """What becomes of a block, with colours for all blocks."""
    found = [_seen_from(form.under, form.ends[state], block, colours[state])]
    for goal, contents in form.turns[state]:
        views = [_seen_from(form.under, shape, block, colours[state]) for shape in contents]
        found.append(
            tuple([(view, colours[goal][at]) for at, view in enumerate(views) if view is not None])
        )
    return tuple(found)


def _many(colours):
    """How many colours there are."""
    return len({colour: True for row in colours for colour in row})


def block_colours(form):
    """A number for each block of each state; blocks that are alike have the same one."""
    colours = [[0] * form.many_blocks(state) for state in range(len(form.turns))]
    before = 0
    while before < _many(colours):
        before = _many(colours)
        numbers = {}
        colours = [
            _numbered([(row[at], _views(form, state, at, colours)) for at in range(len(row))], numbers)
            for state, row in enumerate(colours)
        ]
    return colours


def _state_key(form, state, colours, places):
    """What a state leads to, with colours for its blocks and numbers for the states that follow."""
    kind = form.under
    names = {block: colour for block, colour in enumerate(colours[state])}
    end = form.ends[state]
    told = []
    for goal, contents in form.turns[state]:
        shapes = sorted([str(renamed(kind, shape, names)) for shape in contents])
        told.append((places[goal], tuple(shapes)))
    return (places[state], None if end is None else renamed(kind, end, names), tuple(told))


def state_colours(form, colours):
    """A number for each state; states that are alike have the same one."""
    places = [0] * len(form.turns)
    before = 0
    while before < _many([places]):
        before = _many([places])
        places = _numbered([_state_key(form, state, colours, places) for state in range(len(places))], {})
    return places


def _pair_view(form, state, pair, colours):
    """The shapes of a state, with colours for its blocks and a mark for each block of a pair."""
    names = [3 * colour for colour in colours[state]]
    names[pair[0]] = names[pair[0]] + 1
    names[pair[1]] = names[pair[1]] + 2
    shapes = [shape for _, contents in form.turns[state] for shape in contents]
    if form.ends[state] is not None:
        shapes.append(form.ends[state])
    told = sorted([str(renamed(form.under, shape, names)) for shape in shapes])
    return tuple(told)


class Likeness:
    """Tells of any two states of a form in which ways they are alike."""

    def __init__(self, form):
        self.form = form
        self.colours = block_colours(form)
        self.places = state_colours(form, self.colours)
        self.views = {}
        self.known = {}

    def ways(self, state, other):
        """The tuples that tell for each block of a state which block of the other state it is like."""
        if self.places[state] != self.places[other]:
            return []
        choices = [()]
        for block in range(self.form.many_blocks(state)):
            choices = [names + (like,) for names in choices for like in self._likes(state, other, block, names)]
        return [names for names in choices if self._are_alike((state, other, names))]

    def _are_alike(self, triple):
        """Whether two states are alike, with their blocks as the triple tells."""
        if triple not in self.known:
            found = likeness(self.form, self.form, triple)
            self.known[triple] = found is not None
            # Where one triple holds, all do that follow from it.
            if found is not None:
                for other in found:
                    self.known[other] = True
        return self.known[triple]

    def _likes(self, state, other, block, names):
        """The blocks of the other state that a block may be like, if the blocks ahead are like those."""
        colours = self.colours[other]
        wanted = self.colours[state][block]
        found = [like for like in range(len(colours)) if colours[like] == wanted and like not in names]
        if len(found) < 2:
            return found
        return [
            like
            for like in found
            if all([self._view(state, at, block) == self._view(other, ahead, like) for at, ahead in enumerate(names)])
        ]

    def _view(self, state, one, two):
        """What the state does with two of its blocks."""
        key = (state, one, two)
        if key not in self.views:
            self.views[key] = _pair_view(self.form, state, (one, two), self.colours)
        return self.views[key]
