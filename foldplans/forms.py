"""Loops with as few sums as can be, under one of the kinds trees, pairs, words and bags.

Sums that come into no result are left out. Sums that always end up side by side are joined into one:
what stands for a sum or several joined ones is called a block.
"""

from foldplans.codes import PLUS
from foldplans.lives import living_sums
from foldplans.shapes import are_side_by_side, put_together, shaped


class Form:
    """What a single loop does, by its states and their blocks, both numbered from 0 on.

    `under` is the kind. `states[state]` is the number of the state in the plan; states that no list
    reaches are left out.
    `branches[state]` has what can happen behind an item: tuples of the next state and its contents, which
    are for each of its blocks the shape over the blocks of the state and the item. `choices[state]` tells
    for each tag which branch it takes, `turns[state]` has the branches themselves tag by tag.
    `ends[state]` is a shape or None. `made_of[state]` has for each block the shape over the sums of the
    loop that it stands for. `fresh[state]` tells for each block whether it was made in the latest step: of
    two others it is known that they do not stay side by side.
    """

    def __init__(self, kind, states, branches, choices, ends, made_of, fresh):
        self.under = kind
        self.states = states
        self.branches = branches
        self.choices = choices
        self.turns = [[told[choice] for choice in row] for told, row in zip(branches, choices)]
        self.ends = ends
        self.made_of = made_of
        self.fresh = fresh

    def many_blocks(self, state):
        """How many blocks a state has."""
        return len(self.made_of[state])

    def greatest_size(self):
        """The greatest number of blocks."""
        return max([len(blocks) for blocks in self.made_of], key=int)


def _first_form(plan, kind):
    """The form in which each sum that can come into a result is a block."""
    states = sorted(plan.reached(), key=int)
    numbers = {state: at for at, state in enumerate(states)}
    sums = living_sums(plan)
    places = {state: {place: at for at, place in enumerate(sums[state])} for state in states}
    branches = []
    choices = []
    ends = []
    for state in states:
        known = {}
        choices.append([known.setdefault(turn, len(known)) for turn in plan.shared_turns()[state]])
        told = []
        for turn in known:
            codes = {place: code for place, code in turn.changes}
            moved = [codes.get(place, (place,)) for place in sums[turn.goal]]
            told.append((numbers[turn.goal], tuple([_numbered(kind, code, places[state]) for code in moved])))
        branches.append(told)
        ends.append(_numbered(kind, plan.ends[state], places[state]))
    parts = [[(place,) for place in sums[state]] for state in states]
    return Form(kind, states, branches, choices, ends, parts, [[True] * len(blocks) for blocks in parts])


def _numbered(kind, code, places):
    """The shape of a code that may be None, with the blocks for its sums."""
    if code is None:
        return None
    return shaped(kind, [places[step] if step >= 0 else step for step in code])


def _homes(contents):
    """For each letter the number of the content that has it."""
    return {step: at for at, shape in enumerate(contents) for step in shape if step != PLUS}


class Watch:
    """Looks which blocks of the states of a form always end up side by side."""

    def __init__(self, form):
        self.form = form
        self.homes = [[_homes(contents) for _, contents in told] for told in form.branches]
        self.torn = {}
        self.origins = {}

    def pairs(self):
        """The tuples of a state and of two of its blocks that always end up side by side, in that order."""
        keys = [key for state in range(len(self.form.branches)) for key in self._candidates(state)]
        asked = {key: True for key in keys}
        for key in keys:
            needed = self._needed(key)
            if needed is None or any([other not in asked for other in needed]):
                self.torn[key] = True
            else:
                for other in needed:
                    self.origins.setdefault(other, []).append(key)
        waiting = list(self.torn)
        while waiting:
            latest = waiting.pop()
            for origin in self.origins.get(latest, []):
                if origin not in self.torn:
                    self.torn[origin] = True
                    waiting.append(origin)
        return [key for key in keys if key not in self.torn]

    def _candidates(self, state):
        """The pairs of which it is not known yet that they do not stay side by side."""
        fresh = self.form.fresh[state]
        blocks = range(len(fresh))
        return [(state, one, two) for one in blocks for two in blocks if one != two and (fresh[one] or fresh[two])]

    def _needed(self, key):
        """The pairs that have to stay side by side if this one does; None if it is torn apart at once."""
        state, one, two = key
        end = self.form.ends[state]
        if end is not None and (one in end or two in end):
            if one not in end or two not in end or not are_side_by_side(self.form.under, end, one, two):
                return None
        found = []
        for homes, (goal, contents) in zip(self.homes[state], self.form.branches[state]):
            left = homes.get(one)
            right = homes.get(two)
            if left is None or right is None:
                if left is not None or right is not None:
                    return None
            elif left == right:
                if not are_side_by_side(self.form.under, contents[left], one, two):
                    return None
            elif self._can_meet(contents[left], contents[right], one, two):
                found.append((goal, left, right))
            else:
                return None
        return found

    def _can_meet(self, left, right, one, two):
        """Whether two letters can still come side by side if their contents do."""
        if self.form.under == "bags":
            return True
        if self.form.under == "words":
            return left[-1] == one and right[0] == two
        return left == (one,) and right == (two,)


def _chains(kind, size, follows):
    """The blocks of a state that are joined: lists of blocks, in their order.

    The dict tells for a block which one always stands behind it.
    """
    behind = {two: True for two in follows.values()}
    found = []
    taken = {}
    for block in range(size):
        # In a pair, or in a class, each block has others; then the first one that is met begins.
        if block not in taken and (block not in behind or kind in ("pairs", "bags")):
            group = [block]
            taken[block] = True
            while group[-1] in follows and follows[group[-1]] not in taken:
                group.append(follows[group[-1]])
                taken[group[-1]] = True
            found.append(group)
    return found


def _followers(form):
    """For each state a dict that tells for a block which one always stands behind it."""
    found = [{} for _ in form.branches]
    for state, one, two in Watch(form).pairs():
        # Of a class of blocks each one stands beside each other one: then the next one counts.
        if form.under != "bags" or one < two and one not in found[state]:
            found[state][one] = two
    return found


def _regrouped(kind, shape, numbers):
    """The shape with one letter for each group; `numbers` tells the number of the group of a letter."""
    found = []
    met = {}
    skipping = False
    for step in shape:
        if step == PLUS and skipping:
            skipping = False
        elif step >= 0 and numbers[step] in met:
            # In a pair, the + stands straight behind the second letter.
            skipping = True
        else:
            skipping = False
            if step >= 0:
                met[numbers[step]] = True
            found.append(numbers[step] if step >= 0 else step)
    return shaped(kind, found)


def _joined(form, groups):
    """The form in which the blocks of each group are one block."""
    kind = form.under
    numbers = [{block: at for at, group in enumerate(told) for block in group} for told in groups]
    branches = []
    ends = []
    for state, row in enumerate(form.branches):
        told = []
        for goal, contents in row:
            wholes = [put_together(kind, [contents[block] for block in group]) for group in groups[goal]]
            told.append((goal, tuple([_regrouped(kind, shape, numbers[state]) for shape in wholes])))
        branches.append(told)
        end = form.ends[state]
        ends.append(None if end is None else _regrouped(kind, end, numbers[state]))
    parts = [
        [put_together(kind, [form.made_of[state][block] for block in group]) for group in told]
        for state, told in enumerate(groups)
    ]
    fresh = [[len(group) > 1 for group in told] for told in groups]
    return Form(kind, form.states, branches, form.choices, ends, parts, fresh)


def _least_form(plan, kind):
    form = _first_form(plan, kind)
    while True:
        follows = _followers(form)
        if not any([len(told) > 0 for told in follows]):
            return form
        form = _joined(form, [_chains(kind, form.many_blocks(state), told) for state, told in enumerate(follows)])


def form_of(plan, kind):
    """The form of the plan of a single loop with as few blocks as can be."""
    if kind not in plan.forms:
        plan.forms[kind] = _least_form(plan, kind)
    return plan.forms[kind]
