"""Which rules the entries of a table keep, told all at once.

`rows[x][y]` is x + y, `columns[y][x]` as well.
"""


def _has_grouping(rows):
    """Whether (x + y) + z = x + (y + z) for all values."""
    for row in rows:
        for y, xy in enumerate(row):
            if rows[xy] != [row[yz] for yz in rows[y]]:
                return False
    return True


def _has_middle(rows):
    """Whether x + y + x + z + x = x + y + z + x for all values of a table that keeps grouping."""
    for x, row in enumerate(rows):
        for xy in row:
            if [rows[w][x] for w in rows[rows[xy][x]]] != [rows[w][x] for w in rows[xy]]:
                return False
    return True


def _is_equal_twice(rows):
    """Whether x + x = x for all values."""
    return all([row[x] == x for x, row in enumerate(rows)])


def _has_for(rule, rows, columns, x):
    """Whether the short equations of a rule hold for one x and all y."""
    row = rows[x]
    values = list(range(len(rows)))
    if rule == "first":
        return [rows[xy][x] for xy in row] == row
    if rule == "last":
        return [rows[xy][x] for xy in row] == columns[x]
    if rule == "ends":
        return all([rows[xy] == row for xy in row])
    if rule == "keep":
        return row == [x] * len(rows)
    if rule == "take":
        return row == values
    if rule == "vanish":
        return rows[row[x]] == values and [rows[yx][x] for yx in columns[x]] == values
    return row == columns[x]


def _has_short(rule, rows, columns):
    """Whether the short equations of a rule hold for all values."""
    for x in range(len(rows)):
        if not _has_for(rule, rows, columns, x):
            return False
    return True


def kept_rules(rows, rules):
    """Those of the nine rules that the entries keep, in their order."""
    columns = [list(column) for column in zip(*rows)]
    grouped = _has_grouping(rows)
    equal = grouped and _is_equal_twice(rows)
    kept = {"grouping": grouped}
    for rule in ("order", "keep", "take"):
        kept[rule] = _has_short(rule, rows, columns)
    for rule in ("first", "last", "ends"):
        kept[rule] = equal and _has_short(rule, rows, columns)
    kept["vanish"] = grouped and _has_short("vanish", rows, columns)
    # Each of these three implies middle, which takes long to ask.
    kept["middle"] = kept["first"] or kept["last"] or kept["ends"] or equal and _has_middle(rows)
    return [rule for rule in rules if kept[rule]]
