"""What loops can hold over a gauge, case by case, and where two cases lead to different results.

A case is a state of a loop with what its sums hold and what is used up. Sums that come into no result
from there count as if they held 0. The signs are the items: a tag and a letter of the gauge; they are
numbered, the letters of the first tag first.
"""

from foldplans.codes import worked_out
from foldplans.lives import living_sums

# The case behind an item that may not be there.
NEVER = 0
_NO_CASE = -2
_NO_RESULT = -1


class Cases:
    """The cases of some loops over as many tags, over a gauge.

    `nexts[case][sign]` is the next case, `outcomes[case]` the result if the list ends there, -1 for
    none. `used[case]` tells what is used up, `marks[case]` which marks the sums hold.
    """

    def __init__(self, gauge, many_tags):
        self.gauge = gauge
        self.many_tags = many_tags
        self.nexts = [[NEVER] * (many_tags * len(gauge.letters))]
        self.outcomes = [_NO_CASE]
        self.used = [0]
        self.marks = [""]

    def start_of(self, plan):
        """Adds the cases of a loop; the number of the one in which its runs begin."""
        start = len(self.nexts)
        living = living_sums(plan)
        first = (0, 0, (0,) * len(plan.sums))
        numbers = {first: start}
        found = [first]
        at = 0
        while at < len(found):
            state, used, held = found[at]
            at += 1
            row = []
            for turn in plan.turns[state]:
                for case in self._behind(turn, used, held, living[turn.goal]):
                    if case is None:
                        row.append(NEVER)
                    else:
                        if case not in numbers:
                            numbers[case] = start + len(found)
                            found.append(case)
                        row.append(numbers[case])
            self._keep(row, used, held, self._outcome(plan.ends[state], held))
        return start

    def _behind(self, turn, used, held, living):
        """The cases behind an item, for each letter; None for a letter that the item may not have."""
        found = []
        for letter, later in zip(self.gauge.letters, self.gauge.supply[used]):
            if later is None:
                found.append(None)
            else:
                after = turn.held_behind(held, letter, self._joined)
                kept = [value if place in living and value is not None else 0 for place, value in enumerate(after)]
                found.append((turn.goal, later, tuple(kept)))
        return found

    def _joined(self, left, right):
        return self.gauge.rows[left][right]

    def _outcome(self, code, held):
        found = worked_out(code, held, None, self._joined)
        return _NO_RESULT if found is None else found

    def _keep(self, row, used, held, outcome):
        self.nexts.append(row)
        self.used.append(used)
        self.outcomes.append(outcome)
        self.marks.append("".join([self.gauge.marks[value] for value in held]))


def _numbered(keys):
    """Equal keys get equal numbers, from 0 on; the numbers, and how many there are."""
    numbers = {}
    return [numbers.setdefault(key, len(numbers)) for key in keys], len(numbers)


def _refined(places, nexts):
    """Cases stay in one class if they are, and all that follow them."""
    return _numbered([(places[case], tuple([places[goal] for goal in row])) for case, row in enumerate(nexts)])


def classes(cases):
    """For each case the number of its class: cases of one class have the same results for all lists."""
    places, many = _numbered(cases.outcomes)
    before = 0
    while before < many:
        before = many
        places, many = _refined(places, cases.nexts)
    return places


def first_difference(cases, one, two):
    """The signs of a shortest list for which two cases have different results, None if there is none."""
    places, many = _numbered(cases.outcomes)
    levels = [places]
    before = 0
    while levels[-1][one] == levels[-1][two]:
        if before == many:
            return None
        before = many
        places, many = _refined(levels[-1], cases.nexts)
        levels.append(places)
    # A level tells apart what lists of this length tell apart.
    found = []
    for places in levels[-2::-1]:
        sign = 0
        while places[cases.nexts[one][sign]] == places[cases.nexts[two][sign]]:
            sign += 1
        found.append(sign)
        one = cases.nexts[one][sign]
        two = cases.nexts[two][sign]
    return found
