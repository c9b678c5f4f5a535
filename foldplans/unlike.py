"""Where two trees have different values in a table."""

from foldplans.trees import letters, value_of

# How many parts of trees a short search works out, about.
_SHORT_SEARCH = 3000


def _joins_and_roots(trees, count):
    """The joins of the trees, tuples of two numbers, and the numbers of the trees themselves.

    The letters have the numbers below `count`; the joins have the next ones, in their order. Equal
    parts have the same number.
    """
    joins = {}
    numbers = list(range(count))
    roots = []
    for tree in trees:
        roots.append(
            value_of(tree, numbers, lambda left, right: joins.setdefault((left, right), count + len(joins)))
        )
    return list(joins), roots


def alike_tree(tree, rules):
    """A tree that has the same value in each table that keeps these rules, and is easier to search."""
    if "grouping" not in rules or "order" not in rules:
        return tree
    first, *others = sorted(letters(tree), key=int)
    found = first
    for letter in others:
        found = (found, letter)
    return found


def _unlike_values(rows, columns):
    """The values for which no lower one has the same row and the same column."""
    pairs = list(zip(rows, columns))
    return [k for k in range(len(pairs)) if pairs[k] not in pairs[:k]]


class Search:
    """A search for the first values of the letters for which two trees differ.

    It goes through the values of one letter after the other. A part of a tree has a value as soon as
    its letters have. For the last letter all values are tried at once: there a part is a list. A short
    search is cut when it has gone on for a while.
    """

    def __init__(self, rows, one, two, is_short):
        found = letters(one) + letters(two)
        self.last = max([int(letter) for letter in found])
        self.rows = rows
        self.columns = [list(column) for column in zip(*rows)]
        joins, self.roots = _joins_and_roots([one, two], self.last + 1)
        self.joins = [(self.last + 1 + at, left, right) for at, (left, right) in enumerate(joins)]
        self.worth = [0] * (self.last + 1 + len(joins))
        self.lists = {self.last: list(range(len(rows)))}
        self.greatest = self._greatest_letters()
        self.joins_at = [self._joins_of(letter) for letter in range(self.last + 1)]
        self.needed = [self._needed_behind(letter) for letter in range(self.last)]
        self.tried = [{} for _ in range(self.last)]
        self.values_of_joined = _unlike_values(rows, self.columns)
        self.rest = _SHORT_SEARCH // (len(joins) + 1) if is_short else None

    def _greatest_letters(self):
        """The greatest letter of each part."""
        found = list(range(self.last + 1))
        for _, left, right in self.joins:
            found.append(found[left] if found[left] > found[right] else found[right])
        return found

    def _joins_of(self, letter):
        """The joins with this greatest letter, tuples of the number of a join and of its sides."""
        return [join for join in self.joins if self.greatest[join[0]] == letter]

    def _needed_behind(self, letter):
        """The parts without greater letters that stand within parts with such ones, or are whole trees.

        It is None if all letters up to this one are among them: then no two choices do the same.
        """
        found = {root: True for root in self.roots}
        for part, left, right in self.joins:
            if self.greatest[part] > letter:
                found[left] = True
                found[right] = True
        if all([lower in found for lower in range(letter + 1)]):
            return None
        return [part for part in found if self.greatest[part] <= letter]

    def _choices(self, letter):
        """The values of a letter that have to be tried."""
        # Where a letter stands in joins alone, values with equal rows and columns do the same.
        if letter in self.roots:
            return list(range(len(self.rows)))
        return self.values_of_joined

    def _is_new(self, letter):
        """Whether nothing has been tried before that is the same for all later letters."""
        if self.needed[letter] is None:
            return True
        key = tuple([self.worth[part] for part in self.needed[letter]])
        if key in self.tried[letter]:
            return False
        self.tried[letter][key] = True
        return True

    def is_cut(self):
        """Whether the search has been cut."""
        return self.rest is not None and self.rest <= 0

    def values_from(self, letter):
        """The first values of this letter and the later ones for which the trees differ, or None."""
        if self.rest is not None:
            self.rest -= 1
        if letter == self.last:
            return self._last_value()
        for value in self._choices(letter):
            if self.is_cut():
                return None
            self.worth[letter] = value
            for part, left, right in self.joins_at[letter]:
                self.worth[part] = self.rows[self.worth[left]][self.worth[right]]
            if self._is_new(letter):
                later = self.values_from(letter + 1)
                if later is not None:
                    return [value] + later
        return None

    def _last_value(self):
        """The first value of the last letter for which the trees differ, in a list, or None."""
        for part, left, right in self.joins_at[self.last]:
            self.lists[part] = self._joined(left, right)
        one, two = [self._list_of(root) for root in self.roots]
        if one == two:
            return None
        return [k for k in range(len(one)) if one[k] != two[k]][:1]

    def _joined(self, left, right):
        """The values of a join for all values of the last letter."""
        if self.greatest[left] < self.last:
            row = self.rows[self.worth[left]]
            return [row[b] for b in self.lists[right]]
        if self.greatest[right] < self.last:
            column = self.columns[self.worth[right]]
            return [column[a] for a in self.lists[left]]
        return [self.rows[a][b] for a, b in zip(self.lists[left], self.lists[right])]

    def _list_of(self, root):
        """The values of a whole tree for all values of the last letter."""
        if self.greatest[root] < self.last:
            return [self.worth[root]] * len(self.rows)
        return self.lists[root]
