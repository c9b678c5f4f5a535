"""Which kinds are the least ones, if it is known of some kinds whether two loops agree under them."""

from foldplans.gauges import parts_of
from foldplans.rules import all_kinds, rules_of

# For single loops, agreement under these kinds is the same as under others.
_SAME = {"middles": "words", "heads": "words", "tails": "words", "parity": "bags", "sets": "bags"}


def plainest_kind(kind, are_single):
    """A kind under which agreement is the same, for two loops that are both single, or not."""
    return _SAME.get(kind, kind) if are_single else kind


def needed_parts(kind, are_single):
    """The parts of a kind whose gauges are to be asked, for two loops that are both single, or not."""
    # Single loops agree under both parts of middles, or under none of them.
    return ("heads",) if are_single and kind == "middles" else parts_of(kind)


def kinds_for(are_single):
    """The kinds that are looked at for two loops that are both single, or not."""
    return [kind for kind in all_kinds() if are_single or kind not in ("trees", "pairs")]


def parts_for(are_single):
    """The parts of these kinds, each once."""
    return list({part: True for kind in kinds_for(are_single) for part in parts_of(kind)})


def _is_weaker(one, two):
    """Whether the rules of a kind are a proper part of those of another one."""
    rules = rules_of(two)
    return len(rules_of(one)) < len(rules) and all([rule in rules for rule in rules_of(one)])


def least_of(kinds):
    """Those of the kinds that have no weaker one among them, in their order."""
    return [kind for kind in kinds if not any([_is_weaker(other, kind) for other in kinds])]


def least_by_parts(are_single, parts):
    """The least kinds of which all parts are among these."""
    agreed = [kind for kind in kinds_for(are_single) if all([part in parts for part in parts_of(kind)])]
    return least_of(agreed)
