"""What is asked of the arguments of several functions."""

from foldplans.errors import Doubled, NoKind, NoNormal, OtherTags
from foldplans.rules import all_kinds

_KINDS_OF_SINGLE_LOOPS = ("trees", "pairs")
_KINDS_WITH_NORMAL_FORMS = ("trees", "pairs", "words", "bags")


def check_tags(p, q):
    """Raises OtherTags if two loops are over other tags, or in another order."""
    if p.tags != q.tags:
        raise OtherTags()


def check_single(loops):
    """Raises Doubled if one of the loops is not single."""
    if not all([loop.is_single for loop in loops]):
        raise Doubled()


def check_kind(loops, kind):
    """Raises NoKind, or Doubled for a kind that needs single loops."""
    if kind not in all_kinds():
        raise NoKind(kind)
    if kind in _KINDS_OF_SINGLE_LOOPS:
        check_single(loops)


def check_normal(loops, kind):
    """Raises NoNormal for a kind without normal forms, or Doubled."""
    if kind not in _KINDS_WITH_NORMAL_FORMS:
        raise NoNormal(kind)
    check_single(loops)
