"""The nine rules of an operation, the thirteen kinds, and sets of rules."""

from foldplans.errors import NoKind, NoRule

_RULES = ("grouping", "order", "middle", "first", "last", "ends", "keep", "take", "vanish")

# A kind stands behind all kinds that are weaker.
_RULES_OF = {
    "trees": (),
    "pairs": ("order",),
    "words": ("grouping",),
    "bags": ("grouping", "order"),
    "parity": ("grouping", "order", "vanish"),
    "middles": ("grouping", "middle"),
    "heads": ("grouping", "middle", "first"),
    "tails": ("grouping", "middle", "last"),
    "sets": ("grouping", "order", "middle", "first", "last"),
    "outer": ("grouping", "middle", "ends"),
    "lefts": ("grouping", "middle", "first", "ends", "keep"),
    "rights": ("grouping", "middle", "last", "ends", "take"),
    "one": ("grouping", "order", "middle", "first", "last", "ends", "keep", "take", "vanish"),
}


def all_rules():
    """The nine rules, in their order."""
    return list(_RULES)


def all_kinds():
    """The thirteen kinds, in their order."""
    return list(_RULES_OF)


def rules_of(kind):
    """The rules of a kind, in the order of the rules."""
    if kind not in _RULES_OF:
        raise NoKind(kind)
    return list(_RULES_OF[kind])


def _has_all(rules, names):
    """Whether all of the names are among the rules."""
    return all([name in rules for name in names])


def _weakest_kind(names):
    """The weakest kind that has all of these rules."""
    # What any two kinds have in common is a kind, too. So one of the kinds with these rules is
    # weaker than all others, and it is the first one: the kinds are ordered that way.
    fitting = [kind for kind in _RULES_OF if _has_all(_RULES_OF[kind], names)]
    return fitting[0]


class Rules:
    """A set of rules; it never changes."""

    def __init__(self, names=()):
        for name in names:
            if name not in _RULES:
                raise NoRule(name)
        self._names = tuple([rule for rule in _RULES if rule in names])
        self._kind = _weakest_kind(self._names)

    @classmethod
    def of(cls, *names):
        """The set of these rules."""
        return cls(names)

    @classmethod
    def all_of(cls, kind):
        """The set of the rules of a kind."""
        return cls(rules_of(kind))

    def listed(self):
        """The rules of the set itself, in the order of the rules."""
        return list(self._names)

    @property
    def kind(self):
        """The weakest kind that has all rules of the set."""
        return self._kind

    def closed(self):
        """The set of all rules that this set implies."""
        return Rules(rules_of(self._kind))

    def __contains__(self, x):
        return x in _RULES_OF[self._kind]

    def __len__(self):
        return len(self._names)

    def __bool__(self):
        return bool(self._names)

    def __or__(self, other):
        return Rules([rule for rule in _RULES if rule in self._names or rule in other._names])

    def __and__(self, other):
        return Rules([rule for rule in self._names if rule in other._names])

    def __sub__(self, other):
        return Rules([rule for rule in self._names if rule not in other._names])

    def __xor__(self, other):
        return Rules([rule for rule in _RULES if (rule in self._names) != (rule in other._names)])

    def __eq__(self, other):
        return isinstance(other, Rules) and self._names == other._names

    def __le__(self, other):
        if not isinstance(other, Rules):
            return NotImplemented
        return _has_all(_RULES_OF[other._kind], self._names)

    def __lt__(self, other):
        if not isinstance(other, Rules):
            return NotImplemented
        return self <= other and not other <= self

    def __ge__(self, other):
        if not isinstance(other, Rules):
            return NotImplemented
        return other <= self

    def __gt__(self, other):
        if not isinstance(other, Rules):
            return NotImplemented
        return other < self
