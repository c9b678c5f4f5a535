"""Which sums of a loop can still come into a result."""

from foldplans.bits import members_of, set_of
from foldplans.codes import sums_in


def wanted_ahead(turn, wanted):
    """The sums ahead of an `on` line that come into one of the wanted sums behind it; both are sets."""
    work = turn.work
    found = wanted & ~(work.filled | work.emptied)
    for place, sources in work.sources():
        if wanted & place:
            found = found | sources
    return found


def _living_sums(plan):
    found = [set_of(sums_in(code)) for code in plan.ends]
    turns = [list({turn: True for turn in row}) for row in plan.shared_turns()]
    changing = True
    while changing:
        changing = False
        # Most loops go on to later states, so the later ones are looked at first.
        for state in range(len(turns) - 1, -1, -1):
            wanted = found[state]
            for turn in turns[state]:
                wanted = wanted | wanted_ahead(turn, found[turn.goal])
            if wanted != found[state]:
                found[state] = wanted
                changing = True
    return [members_of(wanted) for wanted in found]


def living_sums(plan):
    """For each state the sums that some list brings into a result from there, in ascending order."""
    if plan.living is None:
        plan.living = _living_sums(plan)
    return plan.living
