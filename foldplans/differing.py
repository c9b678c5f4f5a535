"""The rows of tags for which two loops have results that a gauge tells apart."""

from foldplans.bits import set_of
from foldplans.cases import classes
from foldplans.determined import determined
from foldplans.machines import Machine


def _is_needless(cases, one, two):
    """Whether other pairs of cases show each difference that this one shows.

    A mark that is left in neither of the two need not have been given. If there are several marks and
    one of them is left in just one of the two, this mark alone shows a difference, or the others do.
    """
    many = cases.used[one]
    if many == 0:
        return False
    if many == 1:
        return not cases.marks[one] and not cases.marks[two]
    places = [str(mark) for mark in range(1, many + 1)]
    return any([place not in cases.marks[one] or place not in cases.marks[two] for place in places])


class Pairs:
    """The pairs of cases that a row of tags can lead to, for all ways to give the marks.

    `images[tag][pair]` is the set of the pairs that can follow. Pairs without a difference in what can
    still come are left out. `parting` is the set of the pairs whose results differ. `levels[pair]` tells
    how many marks have been given.
    """

    def __init__(self, cases, one, two):
        self.cases = cases
        self.places = classes(cases)
        self.numbers = {}
        self.found = []
        self.images = [[] for _ in range(cases.many_tags)]
        self._number(one, two)
        at = 0
        while at < len(self.found):
            left, right = self.found[at]
            for tag in range(cases.many_tags):
                self.images[tag].append(set_of(self._behind(left, right, tag)))
            at += 1
        outcomes = cases.outcomes
        self.parting = set_of([k for k, (p, q) in enumerate(self.found) if outcomes[p] != outcomes[q]])
        self.levels = [cases.used[p] for p, _ in self.found]

    def _number(self, one, two):
        """The number of a pair; cases of one class have the same number."""
        key = (self.places[one], self.places[two])
        if key not in self.numbers:
            self.numbers[key] = len(self.found)
            self.found.append((one, two))
        return self.numbers[key]

    def _behind(self, one, two, tag):
        """The numbers of the pairs that can follow behind an item with this tag."""
        many = self.cases.gauge.many_letters
        lefts = self.cases.nexts[one][tag * many:tag * many + many]
        rights = self.cases.nexts[two][tag * many:tag * many + many]
        kept = []
        for left, right in zip(lefts, rights):
            if self.places[left] != self.places[right] and not _is_needless(self.cases, left, right):
                kept.append(self._number(left, right))
        return kept


def parting_machine(cases, one, two):
    """The machine for the rows of tags for which the results from two cases differ."""
    pairs = Pairs(cases, one, two)
    if pairs.places[one] == pairs.places[two]:
        return Machine([[0] * cases.many_tags], [False], 0)
    return determined(pairs.images, pairs.parting, pairs.levels)
