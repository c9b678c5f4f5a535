"""A loop that is followed over a gauge, case by case."""

from foldplans.codes import ITEM, PLUS
from foldplans.lives import living_sums

NO_RESULT = -1


def _value(code, slots, rows):
    """The value of a code over a gauge; the slots are what the sums hold, and behind them the item."""
    if len(code) == 1:
        return slots[code[0]]
    if len(code) == 3:
        return rows[slots[code[0]]][slots[code[1]]]
    ready = []
    for step in code:
        if step == PLUS:
            right = ready.pop()
            left = ready.pop()
            ready.append(rows[left][right])
        else:
            ready.append(slots[step])
    return ready[0]


class Job:
    """What is to be done behind a line: which sums become 0, and the assignments to others.

    Sums that come into no result from there become 0, whatever is assigned to them.
    """

    def __init__(self, many_sums, work, living):
        filled = [(place, code) for place, code in work.changes if code is not None and place in living]
        targets = [place for place, _ in filled]
        touched = work.used + [place for place, _ in work.changes]
        places = list(range(many_sums))
        self.emptied = [
            place for place in places if place not in targets and (place not in living or place in touched)
        ]
        self.plain = [(place, code) for place, code in filled if ITEM not in code]
        self.needing_item = [(place, code) for place, code in filled if ITEM in code]

    def held_behind(self, held, supply, rows):
        """What is used up and what the sums hold behind an item, for each letter of the supply."""
        slots = [*held, 0]
        after = list(held)
        for place in self.emptied:
            after[place] = 0
        for place, code in self.plain:
            after[place] = _value(code, slots, rows)
        found = []
        for letter, later in supply:
            slots[ITEM] = letter
            for place, code in self.needing_item:
                after[place] = _value(code, slots, rows)
            found.append((later, tuple(after)))
        return found


def _job_behind(plan, turn):
    """The job behind a line; it is the same one wherever the same is to be done."""
    if turn not in plan.jobs:
        living = tuple(living_sums(plan)[turn.goal])
        key = (turn.work, living)
        if key not in plan.jobs:
            plan.jobs[key] = Job(len(plan.sums), turn.work, living)
        plan.jobs[turn] = plan.jobs[key]
    return plan.jobs[turn]


class Follower:
    """Follows a plan over a gauge.

    Empty sums, and those that come into no result from a state, count as if they held 0.
    """

    def __init__(self, plan, gauge):
        self.plan = plan
        self.gauge = gauge
        self.turns = plan.shared_turns()
        self.beginning = (0,) * len(plan.sums)
        self._known = {}

    def held_behind(self, turn, used, held):
        """What is used up and what the sums hold behind an item, for each letter that it may get."""
        # The same is done in many states, so what came of it is looked up.
        job = _job_behind(self.plan, turn)
        key = (job, used, held)
        if key not in self._known:
            self._known[key] = job.held_behind(held, self.gauge.supply[used], self.gauge.rows)
        return self._known[key]

    def outcome(self, state, held):
        """The result if the list ends in this state."""
        end = self.plan.ends[state]
        return NO_RESULT if end is None else _value(end, held, self.gauge.rows)
