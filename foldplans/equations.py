"""The equations of the rules, asked of the entries of a table.

`rows[x][y]` is x + y. A side of an equation is a list with its values for all z, in ascending order, or
with one value if there is no z in it.
"""


def _grouping(rows, x, y):
    """Both sides of the equation of grouping."""
    return (rows[rows[x][y]], [rows[x][w] for w in rows[y]])


def _middle(rows, x, y):
    """Both sides of the third equation of middle."""
    xy = rows[x][y]
    xyx = rows[xy][x]
    return ([rows[w][x] for w in rows[xyx]], [rows[w][x] for w in rows[xy]])


def _short_sides(rule, rows, x, y):
    """Both sides of the equations without z that a rule has beside x + x = x."""
    xy = rows[x][y]
    yx = rows[y][x]
    if rule == "order":
        return [([xy], [yx])]
    if rule == "first":
        return [([rows[xy][x]], [xy])]
    if rule == "last":
        return [([rows[xy][x]], [yx])]
    if rule == "keep":
        return [([xy], [x])]
    if rule == "take":
        return [([xy], [y])]
    if rule == "vanish":
        return [([rows[rows[x][x]][y]], [y]), ([rows[yx][x]], [y])]
    return []


def _all_sides(rule, rows, x, y):
    """Both sides of all equations of a rule."""
    found = _short_sides(rule, rows, x, y)
    if rule not in ("order", "keep", "take"):
        found = found + [_grouping(rows, x, y)]
    if rule in ("middle", "first", "last", "ends"):
        found = found + [([rows[x][x]], [x])]
    if rule == "middle":
        found = found + [_middle(rows, x, y)]
    if rule == "ends":
        found = found + [(rows[rows[x][y]], rows[x])]
    return found


def _first_unlike(left, right):
    """The first index at which two lists differ, or their length."""
    at = 0
    while at < len(left) and left[at] == right[at]:
        at += 1
    return at


def breaking_z(rule, rows, x, y):
    """The first z for which an equation of the rule does not hold for x, y and z, or None."""
    # Where there is no z in an equation, z is 0.
    places = [_first_unlike(left, right) for left, right in _all_sides(rule, rows, x, y) if left != right]
    if not places:
        return None
    return min([int(place) for place in places])
