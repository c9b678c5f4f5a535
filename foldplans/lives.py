"""Which sums of a loop can still come into a result."""

from foldplans.codes import sums_in


def _wanted_ahead(turn, wanted):
    """The sums ahead of an `on` line that come into one of the wanted sums behind it."""
    moved = [used for place, code in turn.changes if place in wanted for used in sums_in(code)]
    changed = [place for place, _ in turn.changes] + list(turn.used)
    return moved + [place for place in wanted if place not in changed]


def living_sums(plan):
    """For each state a dict with the sums that some list brings into a result from there."""
    found = [{used: True for used in sums_in(code)} for code in plan.ends]
    changing = True
    while changing:
        changing = False
        for state, row in enumerate(plan.turns):
            for turn in row:
                for place in _wanted_ahead(turn, list(found[turn.goal])):
                    if place not in found[state]:
                        found[state][place] = True
                        changing = True
    return found
