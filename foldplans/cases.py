"""What loops can hold over a gauge, case by case, and where two cases lead to different results.

A case is a state of a loop with what is used up and what its sums hold. The signs are the items: a tag and
a letter of the gauge; they are numbered, the letters of the first tag first.
"""

from foldplans.following import Follower

# The case behind an item that may not be there.
NEVER = 0
_NO_CASE = -2


class Cases:
    """The cases of some loops over as many tags, over a gauge.

    `nexts[case][sign]` is the next case, `outcomes[case]` the result if the list ends there, -1 for
    none. `used[case]` tells what is used up, `marks[case]` which marks the sums hold.
    """

    def __init__(self, gauge, many_tags):
        self.gauge = gauge
        self.many_tags = many_tags
        self.nexts = [[NEVER] * (many_tags * gauge.many_letters)]
        self.outcomes = [_NO_CASE]
        self.used = [0]
        self.marks = [""]

    def start_of(self, plan):
        """Adds the cases of a loop; the number of the one in which its runs begin."""
        start = len(self.nexts)
        follower = Follower(plan, self.gauge)
        first = (0, 0, follower.beginning)
        numbers = {first: start}
        found = [first]
        at = 0
        while at < len(found):
            state, used, held = found[at]
            at += 1
            row = []
            for turn in follower.turns[state]:
                behind = [NEVER] * self.gauge.many_letters
                after = follower.held_behind(turn, used, held)
                for (letter, _), (later, kept) in zip(self.gauge.supply[used], after):
                    case = (turn.goal, later, kept)
                    if case not in numbers:
                        numbers[case] = start + len(found)
                        found.append(case)
                    behind[letter] = numbers[case]
                row.extend(behind)
            self._keep(row, used, held, follower.outcome(state, held))
        return start

    def _keep(self, row, used, held, outcome):
        self.nexts.append(row)
        self.used.append(used)
        self.outcomes.append(outcome)
        self.marks.append("".join([self.gauge.marks[value] for value in held]))


def _numbered(keys):
    """Equal keys get equal numbers, from 0 on; the numbers, and how many there are."""
    numbers = {}
    return [numbers.setdefault(key, len(numbers)) for key in keys], len(numbers)


def _refined(places, nexts):
    """Cases stay in one class if they are, and all that follow them."""
    return _numbered([(places[case], tuple([places[goal] for goal in row])) for case, row in enumerate(nexts)])


def classes(cases):
    """For each case the number of its class: cases of one class have the same results for all lists."""
    places, many = _numbered(cases.outcomes)
    before = 0
    while before < many:
        before = many
        places, many = _refined(places, cases.nexts)
    return places


def first_difference(cases, one, two, most):
    """The signs of a shortest list for which two cases have different results, None if there is none.

    Unless `most` is None, lists with more signs are left out of account.
    """
    places, many = _numbered(cases.outcomes)
    levels = [places]
    before = 0
    while levels[-1][one] == levels[-1][two]:
        if before == many or len(levels) - 1 == most:
            return None
        before = many
        places, many = _refined(levels[-1], cases.nexts)
        levels.append(places)
    # A level tells apart what lists of this length tell apart.
    found = []
    for places in levels[-2::-1]:
        sign = 0
        while places[cases.nexts[one][sign]] == places[cases.nexts[two][sign]]:
            sign += 1
        found.append(sign)
        one = cases.nexts[one][sign]
        two = cases.nexts[two][sign]
    return found
