"""Tables: operations on a few values, written out."""

from foldplans.equations import breaking_z
from foldplans.errors import BadSize, BadTable, BadValue, NoRule, NotClosed
from foldplans.keeping import kept_rules
from foldplans.names import lines_of
from foldplans.rules import Rules, all_rules
from foldplans.trees import do_agree
from foldplans.unlike import Search, alike_tree

_GREATEST_SIZE = 60


def _check_values(values, size):
    """Raises BadValue for the first of these that is no value of a table of this size."""
    for value in values:
        if not isinstance(value, int) or isinstance(value, bool) or not 0 <= value < size:
            raise BadValue(value)


def table_of_rows(rows):
    """The table with these rows."""
    table = Table(len(rows))
    table._rows = [list(row) for row in rows]
    return table


class Table:
    """An operation on the values 0 to size - 1; each entry may be changed."""

    def __init__(self, size):
        if not 1 <= size <= _GREATEST_SIZE:
            raise BadSize(size)
        self.size = size
        self._rows = [[0] * size for _ in range(size)]

    @classmethod
    def of(cls, size, operation):
        """The table of this size with the entries operation(a, b)."""
        table = cls(size)
        for a in range(size):
            for b in range(size):
                table[a, b] = operation(a, b)
        return table

    @classmethod
    def read(cls, text):
        """The table with this written form."""
        lines = [line.split(" ") for line in lines_of(text)]
        if not lines:
            raise BadTable(1)
        numbers = {str(k): k for k in range(len(lines))}
        for at, words in enumerate(lines):
            fits = len(words) == len(lines) and all([word in numbers for word in words])
            if at >= _GREATEST_SIZE or not fits:
                raise BadTable(at + 1)
        return table_of_rows([[numbers[word] for word in words] for words in lines])

    def __getitem__(self, at):
        a, b = at
        _check_values([a, b], self.size)
        return self._rows[a][b]

    def __setitem__(self, at, worth):
        a, b = at
        _check_values([a, b, worth], self.size)
        self._rows[a][b] = worth

    def __iter__(self):
        raise TypeError("a table is not iterated over")

    def __call__(self, a, b):
        return self[a, b]

    def __str__(self):
        return "\n".join([" ".join([str(entry) for entry in row]) for row in self._rows])

    def __eq__(self, other):
        return isinstance(other, Table) and self._rows == other._rows

    def rules(self):
        """The rules that the table keeps, in their order."""
        return kept_rules(self._rows, all_rules())

    @property
    def kind(self):
        """The kind of the set of the rules that the table keeps."""
        return Rules(self.rules()).kind

    def breaks(self, rule):
        """The first values (x, y, z) for which an equation of the rule does not hold, or None."""
        if rule not in all_rules():
            raise NoRule(rule)
        for x in range(self.size):
            for y in range(self.size):
                z = breaking_z(rule, self._rows, x, y)
                if z is not None:
                    return (x, y, z)
        return None

    def unlike_at(self, one, two):
        """The first values of the letters for which two trees differ, a tuple, or None."""
        # Most trees differ soon, or have few values to be tried. Others may agree under the kind of the
        # table, and then they need no search; but it takes a while to find the kind.
        search = Search(self._rows, one, two, True)
        found = search.values_from(0)
        if found is None and search.is_cut():
            rules = self.rules()
            if do_agree(one, two, Rules(rules).kind):
                return None
            found = Search(self._rows, alike_tree(one, rules), alike_tree(two, rules), False).values_from(0)
        return None if found is None else tuple(found)

    def generated(self, values):
        """All values of trees whose letters have some of these values, in ascending order."""
        _check_values(values, self.size)
        found = [k for k in range(self.size) if k in values]
        at = 0
        while at < len(found):
            latest = found[at]
            at += 1
            joined = [(latest, other) for other in found[:at]] + [(other, latest) for other in found[:at]]
            for a, b in joined:
                if self._rows[a][b] not in found:
                    found.append(self._rows[a][b])
        return sorted(found, key=int)

    def part(self, values):
        """The table of these values alone, numbered anew in ascending order."""
        _check_values(values, self.size)
        chosen = [k for k in range(self.size) if k in values]
        if not chosen:
            raise BadSize(0)
        for left in chosen:
            for right in chosen:
                if self._rows[left][right] not in chosen:
                    raise NotClosed(left, right)
        return table_of_rows([[chosen.index(self._rows[a][b]) for b in chosen] for a in chosen])

    def __mul__(self, other):
        many = other.size
        size = self.size * many
        if size > _GREATEST_SIZE:
            raise BadSize(size)
        pairs = [(i, j) for i in range(self.size) for j in range(many)]
        return table_of_rows(
            [[self._rows[a][i] * many + other._rows[b][j] for i, j in pairs] for a, b in pairs]
        )

    def __invert__(self):
        return table_of_rows([list(column) for column in zip(*self._rows)])

    def copied(self):
        """An equal new table."""
        return table_of_rows([list(row) for row in self._rows])
