"""Books: they keep loops under names, and each of them agrees with the first one of its name."""

from foldplans.checks import check_kind
from foldplans.compare import agree, parting
from foldplans.errors import BadName, Barred, NoLoop, NotAlike, NothingToUndo, OtherTags
from foldplans.names import is_name


class Book:
    """A book of loops over the same tags, with a kind."""

    def __init__(self, kind):
        check_kind([], kind)
        self._kind = kind
        # For each name the loop that was kept first, and the one that stands there now.
        self._loops = {}
        # For each change that can be undone the name and what was kept there ahead of it, or None; for
        # a change of the kind None and the kind.
        self._changes = []

    def __setitem__(self, at, worth):
        if not is_name(at):
            raise BadName(at)
        if any([first.tags != worth.tags for first, _ in self._loops.values()]):
            raise OtherTags()
        check_kind([worth], self._kind)
        first = worth
        if at in self._loops:
            first = self._loops[at][0]
            shown = parting(first, worth, self._kind)
            if shown is not None:
                raise NotAlike([tag for tag, _ in shown.given])
        self._changes.append((at, self._loops.get(at)))
        self._loops[at] = (first, worth)

    def _kept(self, name):
        """The loops under a name: the first one, and the one that stands there now."""
        if name not in self._loops:
            raise NoLoop(name)
        return self._loops[name]

    def __getitem__(self, at):
        return self._kept(at)[1]

    def __iter__(self):
        raise TypeError("a book is not iterated over")

    def first_of(self, name):
        """The loop that was kept first under a name."""
        return self._kept(name)[0]

    def __contains__(self, x):
        return x in self._loops

    def __len__(self):
        return len(self._loops)

    def loop_names(self):
        """The names in ascending order."""
        return sorted([str(name) for name in self._loops])

    def drop(self, name):
        """Takes both loops of a name away."""
        self._changes.append((name, self._kept(name)))
        del self._loops[name]

    def _fits(self, name, kind):
        """Whether both loops of a name agree under a kind."""
        first, latest = self._loops[name]
        return agree(first, latest, kind)

    @property
    def kind(self):
        """The kind under which the loops of each name agree."""
        return self._kind

    def set_kind(self, kind):
        """Sets the kind."""
        check_kind([loop for pair in self._loops.values() for loop in pair], kind)
        names = [name for name in self.loop_names() if not self._fits(name, kind)]
        if names:
            raise Barred(names)
        self._changes.append((None, self._kind))
        self._kind = kind

    def undo(self):
        """Undoes the latest change that has not been undone."""
        if not self._changes:
            raise NothingToUndo()
        name, before = self._changes.pop()
        if name is None:
            self._kind = before
        elif before is None:
            del self._loops[name]
        else:
            self._loops[name] = before

    def attempt(self, action):
        """Calls action(book) and returns the result; if an error leaves the call, nothing has changed."""
        kind = self._kind
        loops = dict(self._loops)
        changes = list(self._changes)
        done = None
        try:
            answer = action(self)
            done = True
        finally:
            if done is None:
                self._kind = kind
                self._loops = loops
                self._changes = changes
        return answer
