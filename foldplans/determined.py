"""Machines for what may happen in several ways: a tag leads to several numbers at once.

`images[tag][number]` is the set of the numbers that can follow. A row is accepted if one of its ways from
the first number ends in one of the accepting numbers.
"""

from foldplans.bits import has_member, members_of, set_of, union_of
from foldplans.machines import Machine

_FIRST_LIMIT = 100


def _alike_numbers(images, accepting):
    """For each number the number of its class, and how many classes there are.

    Numbers of one class lead to the same classes, and so to the same rows that are accepted.
    """
    followers = [[members_of(members) for members in row] for row in zip(*images)]
    places = [1 if has_member(accepting, number) else 0 for number in range(len(followers))]
    before = 0
    many = len({place: True for place in places})
    while before < many:
        before = many
        known = {}
        places = [
            known.setdefault((place, tuple([set_of([places[goal] for goal in told]) for told in row])), len(known))
            for place, row in zip(places, followers)
        ]
        many = len(known)
    return places, many


def _merged(images, accepting):
    """The images and the accepting numbers with one number for each class, and the first number."""
    places, many = _alike_numbers(images, accepting)
    found = [[0] * many for _ in images]
    for tag, table in enumerate(images):
        for number, members in enumerate(table):
            found[tag][places[number]] = set_of([places[goal] for goal in members_of(members)])
    return found, set_of([places[number] for number in members_of(accepting)]), places[0]


def _turned(images):
    """The images for the ways that are gone backwards."""
    found = [[0] * len(table) for table in images]
    for tag, table in enumerate(images):
        for number, members in enumerate(table):
            for goal in members_of(members):
                found[tag][goal] = found[tag][goal] | (1 << number)
    return found


def _imitators(images, accepting):
    """For each number the set of those that can go each of its ways as well, step by step."""
    backwards = _turned(images)
    many = len(images[0])
    found = [accepting if has_member(accepting, number) else (1 << many) - 1 for number in range(many)]
    origins = [[members_of(row[place]) for row in backwards] for place in range(many)]
    waiting = list(range(many))
    while waiting:
        later = {}
        for number in waiting:
            for table, ahead in zip(backwards, origins[number]):
                able = union_of(table, found[number]) if ahead else 0
                for other in ahead:
                    if found[other] & ~able:
                        found[other] = found[other] & able
                        later[other] = True
        waiting = list(later)
    return found


def _better_ones(images, accepting):
    """For each number the set of those beside which it is needless."""
    imitators = _imitators(images, accepting)
    alike = {}
    for number, members in enumerate(imitators):
        alike.setdefault(members, []).append(number)
    # Of numbers that imitate one another, the first one stays.
    return [
        members & ~set_of([other for other in alike[members] if other >= number])
        for number, members in enumerate(imitators)
    ]


def _needed(members, better):
    """The members of a set beside which there is no better one."""
    found = members
    for number in members_of(members):
        if found & better[number]:
            found = found ^ (1 << number)
    return found


def _walked(first, images, limit):
    """The sets that are reached and the rows of those that follow; None if there are too many of them."""
    numbers = {first: 0}
    sets = [first]
    nexts = []
    while len(nexts) < len(sets):
        if len(sets) > limit:
            return None
        row = []
        for table in images:
            later = union_of(table, sets[len(nexts)])
            if later not in numbers:
                numbers[later] = len(sets)
                sets.append(later)
            row.append(numbers[later])
        nexts.append(row)
    return sets, nexts


def _forwards(images, accepting, limit):
    """The machine, by the sets that rows lead to; None if there are too many of them."""
    walked = _walked(1, images, limit)
    if walked is None:
        return None
    sets, nexts = walked
    return Machine(nexts, [members & accepting != 0 for members in sets], 0)


def _backwards(images, accepting, start, limit):
    """The machine, by the sets from which rows are accepted; None if there are too many of them."""
    walked = _walked(accepting, _turned(images), limit)
    if walked is None:
        return None
    sets, nexts = walked
    first = set_of([number for number, members in enumerate(sets) if has_member(members, start)])
    tables = [[1 << row[tag] for row in nexts] for tag in range(len(images))]
    sets, nexts = _walked(first, _turned(tables), 1 << len(sets))
    return Machine(nexts, [has_member(members, 0) for members in sets], 0)


def _useful_ones(lower, images, accepting):
    """For each state of a machine the numbers with a row that is accepted from them, but not from it."""
    backwards = _turned(images)
    found = [0 if accepts else accepting for accepts in lower.accepting]
    waiting = list(range(len(found)))
    while waiting:
        changed = {state: True for state in waiting}
        later = {}
        for state, row in enumerate(lower.nexts):
            for tag, goal in enumerate(row):
                if goal in changed:
                    more = union_of(backwards[tag], found[goal]) & ~found[state]
                    if more:
                        found[state] = found[state] | more
                        later[state] = True
        waiting = list(later)
    return found


def _beside(lower, images, accepting, first, counting, limit):
    """The machine for the rows that are accepted; None if there are too many sets.

    The lower machine accepts some of these rows, and no others. `counting` tells which numbers count:
    for each number the set of better ones, and for each state of the machine the set of useful ones.
    """
    better, useful = counting
    first = (0, first & useful[0])
    numbers = {first: 0}
    pairs = [first]
    nexts = []
    while len(nexts) < len(pairs):
        if len(pairs) > limit:
            return None
        state, members = pairs[len(nexts)]
        row = []
        for table, goal in zip(images, lower.nexts[state]):
            behind = (goal, _needed(union_of(table, members) & useful[goal], better))
            if behind not in numbers:
                numbers[behind] = len(pairs)
                pairs.append(behind)
            row.append(numbers[behind])
        nexts.append(row)
    answers = [lower.accepting[state] or members & accepting != 0 for state, members in pairs]
    return Machine(nexts, answers, 0)


def _up_to(images, accepting, levels, level):
    """The images and the accepting numbers for the numbers of at most this level alone."""
    kept = [number for number in range(len(levels)) if levels[number] <= level]
    places = {number: at for at, number in enumerate(kept)}
    found = [
        [set_of([places[goal] for goal in members_of(table[number]) if goal in places]) for number in kept]
        for table in images
    ]
    return found, set_of([places[number] for number in members_of(accepting) if number in places])


def _with_level(lower, images, accepting):
    """The machine for the rows that are accepted; the lower one accepts some of them, and no others."""
    images, accepting, start = _merged(images, accepting)
    counting = (_better_ones(images, accepting), _useful_ones(lower, images, accepting))
    found = None
    limit = _FIRST_LIMIT
    # One of the two directions may need far more sets than the other; it is not known which.
    while found is None:
        limit = limit * 8
        found = _beside(lower, images, accepting, 1 << start, counting, limit)
        if found is None:
            found = _backwards(images, accepting, start, limit)
    return found


def determined(images, accepting, levels):
    """The machine for the rows that are accepted from the number 0.

    Each number has a level, the first one has level 0; none leads to a lower one.
    """
    found = _forwards(images, accepting, _FIRST_LIMIT)
    if found is not None:
        return found
    # What can be told with few marks tells most of it.
    found = Machine([[0] * len(images)], [False], 0)
    for level in range(1 + max([int(level) for level in levels])):
        some, ends = _up_to(images, accepting, levels, level)
        found = _with_level(found, some, ends)
    return found
