"""How the text of a loop is read."""

from foldplans.codes import ITEM, code_of
from foldplans.errors import BadLoop
from foldplans.names import is_name, lines_of
from foldplans.plans import Plan, Turn


class Reader:
    """A text that is read line by line; `at` of its lines have been read."""

    def __init__(self, text):
        self.lines = [line.split(" ") for line in lines_of(text)]
        self.at = 0
        self.introduced = {}

    def is_done(self):
        """Whether all lines have been read."""
        return self.at == len(self.lines)

    def refuse(self):
        """Tells that the line that is due is wrong, or missing."""
        raise BadLoop(self.at + 1)

    def words(self):
        """The words of the line that is due."""
        if self.is_done():
            self.refuse()
        return self.lines[self.at]

    def new_names(self, word, least):
        """Reads a line with this word and at least so many new names; the names."""
        words = self.words()
        if words[0] != word or len(words) <= least:
            self.refuse()
        for name in words[1:]:
            if not is_name(name) or name in self.introduced:
                self.refuse()
            self.introduced[name] = True
        self.at += 1
        return tuple(words[1:])

    def new_state(self):
        """Reads the line that begins a state; its name."""
        if len(self.words()) != 2:
            self.refuse()
        return self.new_names("state", 1)[0]

    def next_state(self, tag):
        """Reads the `on` line for a tag; the name of the state behind `go`."""
        words = self.words()
        if len(words) != 4 or words[:3] != ["on", tag, "go"] or not is_name(words[3]):
            self.refuse()
        self.at += 1
        return words[3]

    def code(self, words, places, uses):
        """The code that some words of the line that is due stand for, or None for `none`.

        The last dict tells how often each part may still be used; what the code uses is taken off.
        """
        if words == ["none"]:
            return None
        code = code_of(words, places)
        if code is None:
            self.refuse()
        for step in code:
            if step in uses:
                uses[step] -= 1
                if uses[step] < 0:
                    self.refuse()
        return code

    def assignments(self, places):
        """Reads the assignments behind an `on` line: tuples of a sum and a code or None."""
        parts = {**places, "x": ITEM}
        uses = {parts[word]: 1 for word in parts}
        uses[ITEM] = 2
        found = {}
        while not self.is_done() and self.words()[1:2] == ["="]:
            words = self.words()
            place = places.get(words[0], ITEM)
            if place == ITEM or place in found:
                self.refuse()
            found[place] = self.code(words[2:], parts, uses)
            self.at += 1
        return tuple([(place, found[place]) for place in found])

    def end(self, places):
        """Reads an `end` line; its code, or None."""
        words = self.words()
        if words[0] != "end":
            self.refuse()
        code = self.code(words[1:], places, {places[name]: 1 for name in places})
        self.at += 1
        return code


def _numbered(names):
    return {name: at for at, name in enumerate(names)}


def _check_goals(drafts, numbers):
    """Raises BadLoop for the first `go` with a name that is not among the states."""
    for row in drafts:
        for line, goal, _ in row:
            if goal not in numbers:
                raise BadLoop(line)


def _turns(row, numbers):
    """The turns of one state; each draft is a tuple of the line, the next state and the assignments."""
    return tuple([Turn(numbers[goal], changes) for _, goal, changes in row])


def read_plan(text):
    """The plan of the loop with this text."""
    reader = Reader(text)
    tags = reader.new_names("tags", 1)
    sums = reader.new_names("sums", 0)
    places = _numbered(sums)
    states = []
    drafts = []
    ends = []
    while not states or not reader.is_done():
        states.append(reader.new_state())
        row = []
        for tag in tags:
            goal = reader.next_state(tag)
            line = reader.at
            row.append((line, goal, reader.assignments(places)))
        drafts.append(row)
        ends.append(reader.end(places))
    numbers = _numbered(states)
    _check_goals(drafts, numbers)
    turns = tuple([_turns(draft, numbers) for draft in drafts])
    return Plan(tags, sums, tuple(states), turns, tuple(ends))
