"""Loops of 200 states, 12 tags and 12 sums for the tests."""

STATES = [f"s{'abcdefghijklmnopqrst'[k // 10]}{'abcdefghij'[k % 10]}" for k in range(200)]
TAGS = [f"t{letter}" for letter in "abcdefghijkl"]
SUMS = list("abcdefghijkl")


def text_of(goal_of, lines_of, end_of):
    """The loop with these next states, assignments and ends, told by functions of numbers."""
    lines = [" ".join(["tags", *TAGS]), " ".join(["sums", *SUMS])]
    for at, state in enumerate(STATES):
        lines.append(f"state {state}")
        for number, tag in enumerate(TAGS):
            lines.append(f"on {tag} go {STATES[goal_of(at, number)]}")
            lines += lines_of(at, number)
        lines.append(f"end {end_of(at)}")
    return "\n".join(lines)


def ring_goal(at, number):
    """Twelve states in a row, then a ring of 188 states in which the tags go 1 to 12 states on."""
    return at + 1 if at < 12 else 12 + (at - 12 + number + 1) % 188


def ring_lines(at, number):
    """The sums are filled one by one; then they move, change places or grow."""
    if at < 12:
        return [f"{SUMS[at]} = x"]
    if number == 0:
        return [f"{SUMS[k]} = {SUMS[k + 1]}" for k in range(11)] + ["l = ( a ) + x"]
    one, two = SUMS[number - 1], SUMS[number]
    if number % 2:
        return [f"{two} = x + {two}"]
    return [f"{one} = {two} + x", f"{two} = {one}"]


def ring_end(at):
    """All sums together in every third state of the ring."""
    if at < 12 or at % 3:
        return "none"
    return "a + ( b + c ) + ( ( d + e ) + f ) + g + ( h + ( i + ( j + k ) ) ) + l"


def ring_text(changed=None):
    """A loop in which no sum is ever empty when it is used; the dict tells of lines that are different."""
    changed = changed or {}
    return text_of(ring_goal, lambda at, number: changed.get((at, number), ring_lines(at, number)), ring_end)


def scattering_text(last_end):
    """A loop whose lists bring about each set of empty sums in each state; one state has this end."""

    def lines_of(at, number):
        return [f"{SUMS[number]} = {'x' if at % 2 else 'none'}"]

    return text_of(
        lambda at, number: (at + number + 1) % 200, lines_of, lambda at: last_end if at == 199 else "none"
    )


def first_row_to(goal_of, wanted):
    """The first row of tag numbers, the shorter ones first, that leads from the start to this state."""
    rows = {0: []}
    states = [0]
    for at in states:
        for number in range(12):
            goal = goal_of(at, number)
            if goal not in rows:
                rows[goal] = rows[at] + [number]
                states.append(goal)
    return rows[wanted]
