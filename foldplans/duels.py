"""Where two loops have different results over a gauge."""

from foldplans.cases import Cases, first_difference
from foldplans.differing import parting_machine
from foldplans.early import Look


def shortest_items(one, two, gauge, most=None):
    """The items of a shortest list for which two plans have different results over a gauge, or None.

    An item is a tuple of the number of a tag and a value. Lists with more items than `most`, if that is
    told, are left out of account.
    """
    found = Look(one, two, gauge).shortest(most)
    if found is None:
        return late_items(one, two, gauge, most)
    return found if found else None


def late_items(one, two, gauge, most=None):
    """The same, found by way of all cases."""
    many = gauge.many_letters
    cases = Cases(gauge, len(one.tags))
    signs = first_difference(cases, cases.start_of(one), cases.start_of(two), most)
    if signs is None:
        return None
    return [(sign // many, sign - sign // many * many) for sign in signs]


def parting_rows_of(one, two, gauge):
    """The machine for the rows of tags for which two plans have different results over a gauge."""
    cases = Cases(gauge, len(one.tags))
    return parting_machine(cases, cases.start_of(one), cases.start_of(two))
