"""Finite machines that read rows of tags.

The tags are numbered. A machine reads a row tag by tag, beginning in state 0; the state behind the last
tag tells whether it accepts the row. Each machine is the least one that accepts its rows, with the states
numbered in the order in which they are met: so machines that accept the same rows are equal.
"""

from foldplans.bits import has_member, set_of, union_of

# The answers of two machines for which a row counts.
IN_EITHER = ((True, False), (False, True), (True, True))
IN_BOTH = ((True, True),)
IN_FIRST_ALONE = ((True, False),)
IN_JUST_ONE = ((True, False), (False, True))


def _groups(asked, nexts, places):
    """The states that are asked, by their own class and the classes of the states that follow."""
    found = {}
    for state in asked:
        key = (places[state], tuple([places[goal] for goal in nexts[state]]))
        found.setdefault(key, []).append(state)
    return found


def _staying(groups, sizes):
    """The keys of the groups that keep the number of their class, a dict: the largest of each class.

    If a class has members that have not been asked, these keep it, and none of its groups does.
    """
    asked = {}
    largest = {}
    for key in groups:
        place = key[0]
        asked[place] = asked.get(place, 0) + len(groups[key])
        if place not in largest or len(groups[key]) > len(groups[largest[place]]):
            largest[place] = key
    return {largest[place]: True for place in largest if asked[place] == sizes[place]}


def _classes(nexts, accepting):
    """For each state the number of its class: two states are alike if they accept the same rows."""
    places = [1 if accepts else 0 for accepts in accepting]
    sizes = [len(places) - sum(places), sum(places)]
    origins = [[] for _ in nexts]
    for state, row in enumerate(nexts):
        for goal in row:
            origins[goal].append(state)
    asked = list(range(len(nexts)))
    while asked:
        # A state is asked again only if one that follows it has got another number.
        groups = _groups(asked, nexts, places)
        staying = _staying(groups, sizes)
        later = {}
        leaving = [key for key in groups if key not in staying]
        for key in leaving:
            for state in groups[key]:
                places[state] = len(sizes)
                for origin in origins[state]:
                    later[origin] = True
            sizes[key[0]] = sizes[key[0]] - len(groups[key])
            sizes.append(len(groups[key]))
        asked = list(later)
    return places


def _met(nexts, start):
    """The states that are met from the start, in the order of the first rows that lead to them."""
    found = [start]
    known = {start: True}
    at = 0
    while at < len(found):
        row = nexts[found[at]]
        for goal in row:
            if goal not in known:
                known[goal] = True
                found.append(goal)
        at += 1
    return found


class Machine:
    """The least machine that accepts the same rows as the given one; it never changes.

    `nexts[state][tag]` is the next state, `accepting[state]` tells whether the state accepts. `dead` is
    the state from which nothing is accepted, None if there is none.
    """

    def __init__(self, nexts, accepting, start):
        places = _classes(nexts, accepting)
        numbers = {}
        chosen = []
        for state in _met(nexts, start):
            if places[state] not in numbers:
                numbers[places[state]] = len(chosen)
                chosen.append(state)
        self.nexts = tuple([tuple([numbers[places[goal]] for goal in nexts[state]]) for state in chosen])
        self.accepting = tuple([accepting[state] for state in chosen])
        self.dead = _state_for_ever(self.nexts, self.accepting, False)


def _state_for_ever(nexts, accepting, answer):
    """The state that is never left and gives this answer, or None."""
    for state, row in enumerate(nexts):
        if accepting[state] == answer and all([goal == state for goal in row]):
            return state
    return None


def merged(one, two, counting):
    """The machine for the rows for which the answers of both machines are among those that count."""
    numbers = {(0, 0): 0}
    pairs = [(0, 0)]
    nexts = []
    while len(nexts) < len(pairs):
        p, q = pairs[len(nexts)]
        row = []
        for pair in zip(one.nexts[p], two.nexts[q]):
            if pair not in numbers:
                numbers[pair] = len(pairs)
                pairs.append(pair)
            row.append(numbers[pair])
        nexts.append(row)
    return Machine(nexts, [(one.accepting[p], two.accepting[q]) in counting for p, q in pairs], 0)


def opposite(machine):
    """The machine for all other rows."""
    return Machine(machine.nexts, [not accepts for accepts in machine.accepting], 0)


def put_behind(one, two):
    """The machine for the rows that consist of a row of the first one followed by a row of the second."""
    # Behind a beginning, the first machine is in one state, and the second one in several: it may have
    # begun at different places. Its dead state adds nothing, and where all rows are accepted nothing
    # else counts.
    living = [0 if state == two.dead else 1 << state for state in range(len(two.nexts))]
    images = [[living[goals[tag]] for goals in two.nexts] for tag in range(len(one.nexts[0]))]
    whole = _state_for_ever(two.nexts, two.accepting, True)
    everything = 0 if whole is None else 1 << whole
    start = (0, living[0] if one.accepting[0] else 0)
    numbers = {start: 0}
    pairs = [start]
    nexts = []
    while len(nexts) < len(pairs):
        state, members = pairs[len(nexts)]
        row = []
        for tag, goal in enumerate(one.nexts[state]):
            later = union_of(images[tag], members) | (living[0] if one.accepting[goal] else 0)
            pair = (0, everything) if later & everything else (goal, later)
            if pair not in numbers:
                numbers[pair] = len(pairs)
                pairs.append(pair)
            row.append(numbers[pair])
        nexts.append(row)
    accepting = set_of([state for state, accepts in enumerate(two.accepting) if accepts])
    return Machine(nexts, [members & accepting != 0 for _, members in pairs], 0)


def read_backwards(machine):
    """The machine for the rows read backwards."""
    # It follows the states from which what has been read would have been accepted.
    images = [[0] * len(machine.nexts) for _ in machine.nexts[0]]
    for state, goals in enumerate(machine.nexts):
        for tag, goal in enumerate(goals):
            images[tag][goal] = images[tag][goal] | (1 << state)
    start = set_of([state for state, accepts in enumerate(machine.accepting) if accepts])
    numbers = {start: 0}
    sets = [start]
    nexts = []
    while len(nexts) < len(sets):
        members = sets[len(nexts)]
        row = []
        for table in images:
            origins = union_of(table, members)
            if origins not in numbers:
                numbers[origins] = len(sets)
                sets.append(origins)
            row.append(numbers[origins])
        nexts.append(row)
    return Machine(nexts, [has_member(members, 0) for members in sets], 0)


def first_accepted(machine):
    """The first row of tag numbers that is accepted, the shorter ones first, or None."""
    # The states are numbered in the order of the first rows that lead to them.
    if not any(machine.accepting):
        return None
    origins = {}
    for state, row in enumerate(machine.nexts):
        for tag, goal in enumerate(row):
            origins.setdefault(goal, (state, tag))
    found = []
    state = machine.accepting.index(True)
    while state != 0:
        state, tag = origins[state]
        found.append(tag)
    return found[::-1]


def accepts_finitely(machine):
    """Whether finitely many rows are accepted."""
    # States that no state leads to are taken away, again and again: what remains goes round in circles.
    arriving = [0] * len(machine.nexts)
    for state, row in enumerate(machine.nexts):
        for goal in row:
            if state != machine.dead:
                arriving[goal] += 1
    waiting = [0] if arriving[0] == 0 else []
    taken = 0
    while waiting:
        state = waiting.pop()
        taken += 1
        row = machine.nexts[state] if state != machine.dead else ()
        for goal in row:
            arriving[goal] -= 1
            if arriving[goal] == 0:
                waiting.append(goal)
    return taken == len(machine.nexts)
