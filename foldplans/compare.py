"""Whether two loops agree, and how they differ if they do not."""

from foldplans.cases import Cases, classes
from foldplans.checks import check_kind, check_tags
from foldplans.duels import late_items, parting_rows_of, shortest_items
from foldplans.early import Look
from foldplans.forms import form_of
from foldplans.gauges import gauge_for, gauge_of_table, parts_of
from foldplans.leastkinds import least_by_parts, needed_parts, parts_for, plainest_kind
from foldplans.likeness import likeness
from foldplans.machines import IN_EITHER, Machine, merged
from foldplans.rowsets import RowSet
from foldplans.tables import table_of_rows

_KINDS_WITH_FORMS = ("trees", "pairs", "words", "bags")


def _are_single(p, q):
    return p.is_single and q.is_single


def _gauges(p, q, kind):
    """The gauges for two loops and a kind."""
    are_single = _are_single(p, q)
    return [gauge_for(part, are_single, True) for part in needed_parts(kind, are_single)]


def _told_by_forms(p, q, kind):
    """Whether two loops agree under a kind, or a part of one; None if forms do not tell it."""
    if kind == "one" or not _are_single(p, q):
        return None
    plainest = plainest_kind(kind, True)
    # The kinds for which there are no forms are stronger than words.
    is_exact = plainest in _KINDS_WITH_FORMS
    under = plainest if is_exact else "words"
    if likeness(form_of(p.plan, under), form_of(q.plan, under), (0, 0, ())) is not None:
        return True
    return False if is_exact else None


def _do_agree(p, q, kind):
    """Whether two loops agree under a kind, or a part of one, under which they can be compared."""
    told = _told_by_forms(p, q, kind)
    if told is not None:
        return told
    for gauge in _gauges(p, q, kind):
        if shortest_items(p.plan, q.plan, gauge) is not None:
            return False
    return True


def agree(p, q, kind):
    """Whether two loops agree under a kind."""
    check_tags(p, q)
    check_kind([p, q], kind)
    return _do_agree(p, q, kind)


class Parting:
    """A list of items and a table for which two loops have different results."""

    def __init__(self, given, table, results):
        self.given = list(given)
        self.table = table
        self.results = tuple(results)


def _parting_over(p, q, gauge, items):
    """What a list of items, by the numbers of their tags, shows over a gauge."""
    rows = gauge.rows
    operation = lambda a, b: rows[a][b]
    given = [(p.tags[tag], value) for tag, value in items]
    return Parting(given, table_of_rows(rows), (p.run(given, operation), q.run(given, operation)))


def parting(p, q, kind):
    """A shortest list and a table of the kind for which two loops differ, or None if they agree."""
    check_tags(p, q)
    check_kind([p, q], kind)
    if _told_by_forms(p, q, kind):
        return None
    shortest = None
    chosen = None
    for gauge in _gauges(p, q, kind):
        # Another gauge is of use only if it shows something by a shorter list.
        items = shortest_items(p.plan, q.plan, gauge, None if shortest is None else len(shortest) - 1)
        if items is not None:
            shortest = items
            chosen = gauge
    return None if shortest is None else _parting_over(p, q, chosen, shortest)


def least_kinds(p, q):
    """The kinds under which two loops agree, while they agree under no weaker kind."""
    check_tags(p, q)
    are_single = _are_single(p, q)
    return least_by_parts(are_single, [part for part in parts_for(are_single) if _do_agree(p, q, part)])


def _difference_among(p, q, gauges, tags):
    """The numbers of the tags of a list over these tags for which two loops differ, or None."""
    one = p.plan.limited_to(tags)
    two = q.plan.limited_to(tags)
    for gauge in gauges:
        items = shortest_items(one, two, gauge)
        if items is not None:
            return [tags[tag] for tag, _ in items]
    return None


def _chosen_tags(many, chosen):
    """The numbers of the tags in a set that has a bit for each tag; the first tag has the highest one."""
    return [tag for tag in range(many) if (chosen >> (many - 1 - tag)) & 1 == 1]


def agreeing_tags(p, q, kind):
    """The greatest sets of tags such that two loops agree for all lists with these tags alone."""
    check_tags(p, q)
    check_kind([p, q], kind)
    gauges = _gauges(p, q, kind)
    many = len(p.tags)
    agreeing = []
    parting_ones = []
    # From the greatest number on, the sets come in their order, and a set comes behind all that have
    # it as a part.
    for chosen in range((1 << many) - 1, -1, -1):
        is_known = any([chosen & found == chosen for found in agreeing])
        if not is_known and not any([chosen & found == found for found in parting_ones]):
            used = _difference_among(p, q, gauges, _chosen_tags(many, chosen))
            if used is None:
                agreeing.append(chosen)
            else:
                parting_ones.append(sum([1 << (many - 1 - tag) for tag in range(many) if tag in used]))
    return [[p.tags[tag] for tag in _chosen_tags(many, chosen)] for chosen in agreeing]


def _agree_by_kind(p, q, kind):
    """Whether two loops agree under the kind of a table, as far as they can be compared under it."""
    if kind in ("trees", "pairs") and not _are_single(p, q):
        return False
    return _do_agree(p, q, kind)


def parting_in(p, q, table):
    """A shortest list for which two loops have different results in a table, or None."""
    check_tags(p, q)
    gauge = gauge_of_table(table)
    items = Look(p.plan, q.plan, gauge).shortest(None)
    if items is None and not _agree_by_kind(p, q, table.kind):
        items = late_items(p.plan, q.plan, gauge)
    if not items:
        return None
    return [(p.tags[tag], value) for tag, value in items]


def _are_exchangeable(loop, gauge):
    """Whether any two neighbours can change places wherever they stand."""
    cases = Cases(gauge, len(loop.tags))
    cases.start_of(loop.plan)
    places = classes(cases)
    nexts = cases.nexts
    for row in nexts:
        behind = [[places[case] for case in nexts[goal]] for goal in row]
        for at, goals in enumerate(behind):
            if any([goals[other] != behind[other][at] for other in range(at)]):
                return False
    return True


def is_order_free(loop, kind):
    """Whether the result stays the same under a kind if the items are brought into any other order."""
    check_kind([loop], kind)
    gauges = [gauge_for(part, loop.is_single, False) for part in parts_of(kind)]
    return all([_are_exchangeable(loop, gauge) for gauge in gauges])


def result_rows(loop):
    """The rows of tags for which a loop has a result."""
    nexts = [[turn.goal for turn in row] for row in loop.plan.turns]
    return RowSet(loop.tags, Machine(nexts, [code is not None for code in loop.plan.ends], 0))


def parting_rows(p, q, kind):
    """The rows of tags for which the results of two loops do not agree under a kind."""
    check_tags(p, q)
    check_kind([p, q], kind)
    gauges = _gauges(p, q, plainest_kind(kind, _are_single(p, q)))
    machines = [parting_rows_of(p.plan, q.plan, gauge) for gauge in gauges]
    found = machines[0]
    for machine in machines[1:]:
        found = merged(found, machine, IN_EITHER)
    return RowSet(p.tags, found)
