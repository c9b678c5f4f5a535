"""How the text of a loop is read."""

from foldplans.bits import members_of, set_of
from foldplans.codes import ITEM, code_of, pluses_in, sums_in
from foldplans.errors import BadLoop
from foldplans.names import is_name, lines_of
from foldplans.plans import Plan, Turn, Work

_MOST_ITEMS = 2


class Reader:
    """A text that is read line by line; `at` of its lines have been read.

    Many lines of a great loop are alike, so what has been found out of a line is kept: `known` has the
    assignments, `works` what they do together, `goals` the names behind `go`.
    """

    def __init__(self, text):
        self.lines = lines_of(text)
        self.at = 0
        self.introduced = {}
        self.known = {}
        self.works = {}
        self.goals = {}

    def is_done(self):
        """Whether all lines have been read."""
        return self.at == len(self.lines)

    def refuse(self):
        """Tells that the line that is due is wrong, or missing."""
        raise BadLoop(self.at + 1)

    def due_line(self):
        """The line that is due."""
        if self.is_done():
            self.refuse()
        return self.lines[self.at]

    def new_names(self, word, least):
        """Reads a line with this word and at least so many new names; the names."""
        words = self.due_line().split(" ")
        if words[0] != word or len(words) <= least:
            self.refuse()
        for name in words[1:]:
            if not is_name(name) or name in self.introduced:
                self.refuse()
            self.introduced[name] = True
        self.at += 1
        return tuple(words[1:])

    def new_state(self):
        """Reads the line that begins a state; its name."""
        if len(self.due_line().split(" ")) != 2:
            self.refuse()
        return self.new_names("state", 1)[0]

    def next_state(self, beginning):
        """Reads the `on` line with this beginning; the name of the state behind `go`."""
        line = self.due_line()
        goal = line[len(beginning):]
        if not line.startswith(beginning):
            self.refuse()
        if goal not in self.goals:
            if not is_name(goal):
                self.refuse()
            self.goals[goal] = True
        self.at += 1
        return goal

    def code(self, words, places):
        """The code that some words of the line that is due stand for, or None for `none`."""
        if words == ["none"]:
            return None
        code = code_of(words, places)
        if code is None:
            self.refuse()
        return code

    def assignment(self, line, places):
        """The assignment in a line: a tuple of a sum, a code or None, and what is counted of the code.

        It is None if the line is another one.
        """
        words = line.split(" ")
        if words[1:2] != ["="]:
            return None
        place = places.get(words[0], ITEM)
        if place == ITEM:
            self.refuse()
        code = self.code(words[2:], places)
        return (place, code, self.needed_by(code), pluses_in(code), 0 if code is None else code.count(ITEM))

    def needed_by(self, code):
        """The set of the sums in a code that may be None; each may be there once."""
        used = sums_in(code)
        found = set_of(used)
        if len(used) > 1 and len(members_of(found)) < len(used):
            self.refuse()
        return found

    def read_work(self, places):
        """Reads the assignments behind an `on` line; the dict has the item, too."""
        changes = []
        targets = 0
        needed = 0
        pluses = 0
        items = 0
        while self.at < len(self.lines):
            line = self.lines[self.at]
            # An `on` line comes so often that it is told from an assignment at once.
            if line not in self.known:
                told = None if line.startswith("on ") else self.assignment(line, places)
                if told is None:
                    break
                self.known[line] = told
            place, code, used, joins, many = self.known[line]
            if targets & (1 << place) or needed & used or items + many > _MOST_ITEMS:
                self.refuse()
            changes.append((place, code))
            targets = targets | (1 << place)
            needed = needed | used
            pluses += joins
            items += many
            self.at += 1
        key = tuple(changes)
        if key not in self.works:
            self.works[key] = Work(key, needed, pluses, items > 1)
        return self.works[key]

    def end(self, places):
        """Reads an `end` line; its code, or None."""
        words = self.due_line().split(" ")
        if words[0] != "end":
            self.refuse()
        code = self.code(words[1:], places)
        self.needed_by(code)
        self.at += 1
        return code


def _numbered(names):
    return {name: at for at, name in enumerate(names)}


def _check_goals(drafts, numbers):
    """Raises BadLoop for the first `go` with a name that is not among the states."""
    for row in drafts:
        for line, goal, _ in row:
            if goal not in numbers:
                raise BadLoop(line)


def _turns(draft, numbers):
    """The turns of a state; a draft has tuples of the line, the next state and the work."""
    return tuple([Turn(numbers[goal], work) for _, goal, work in draft])


def read_plan(text):
    """The plan of the loop with this text."""
    reader = Reader(text)
    tags = reader.new_names("tags", 1)
    sums = reader.new_names("sums", 0)
    places = _numbered(sums)
    parts = {**places, "x": ITEM}
    beginnings = ["on " + tag + " go " for tag in tags]
    states = []
    drafts = []
    ends = []
    while not states or not reader.is_done():
        states.append(reader.new_state())
        row = []
        for beginning in beginnings:
            goal = reader.next_state(beginning)
            line = reader.at
            row.append((line, goal, reader.read_work(parts)))
        drafts.append(row)
        ends.append(reader.end(places))
    numbers = _numbered(states)
    _check_goals(drafts, numbers)
    turns = tuple([_turns(draft, numbers) for draft in drafts])
    return Plan(tags, sums, tuple(states), turns, tuple(ends))
