"""The errors of the package."""

# No class writes its fields into a text of its own: Python keeps what an error was made with and
# shows it as the message, and it does so only when the message is asked for. So an error can be
# made of any values, also of numbers with more digits than Python writes.


def _own(given):
    """A copy of a list, which the caller may go on changing; anything else as it is."""
    if isinstance(given, list):
        return list(given)
    return given


class FoldError(ValueError):
    """The base class of all errors of this package."""


class NoRule(FoldError):
    """A text is no rule."""

    def __init__(self, name):
        self.name = name


class NoKind(FoldError):
    """A text is no kind."""

    def __init__(self, name):
        self.name = name


class BadLoop(FoldError):
    """A line of a loop is wrong."""

    def __init__(self, line):
        self.line = line


class BadTable(FoldError):
    """A line of a written table is wrong."""

    def __init__(self, line):
        self.line = line


class EmptySum(FoldError):
    """A loop uses an empty sum for a list with these tags."""

    def __init__(self, row):
        self.row = _own(row)


class OtherTags(FoldError):
    """Two things that have to be over the same tags are not."""

    def __init__(self):
        super().__init__()


class Doubled(FoldError):
    """A loop that has to be single is not."""

    def __init__(self):
        super().__init__()


class BadTag(FoldError):
    """What stands at this index has none of the tags of the loop."""

    def __init__(self, index):
        self.index = index


class BadValue(FoldError):
    """This is no value of the table."""

    def __init__(self, value):
        self.value = value


class BadSize(FoldError):
    """No table has this size."""

    def __init__(self, size):
        self.size = size


class NotClosed(FoldError):
    """The sum of these two values is none of the values that were named."""

    def __init__(self, left, right):
        self.left = left
        self.right = right


class NoNormal(FoldError):
    """There are no normal forms under this kind."""

    def __init__(self, name):
        self.name = name


class NotHere(FoldError):
    """A summary tells nothing of this name."""

    def __init__(self, name):
        self.name = name


class NotNeighbours(FoldError):
    """Two summaries cannot be joined: their loops are not equal."""

    def __init__(self):
        super().__init__()


class BadCount(FoldError):
    """A count is out of its limits."""

    def __init__(self, count):
        self.count = count


class NoTag(FoldError):
    """A text is none of the tags."""

    def __init__(self, name):
        self.name = name


class TooMany(FoldError):
    """A loop would use an item more than twice."""

    def __init__(self):
        super().__init__()


class BadName(FoldError):
    """A text is no name."""

    def __init__(self, name):
        self.name = name


class NoLoop(FoldError):
    """A book keeps no loop under this name."""

    def __init__(self, name):
        self.name = name


class NotAlike(FoldError):
    """A loop does not agree with the first one of its name for a list with these tags."""

    def __init__(self, row):
        self.row = _own(row)


class Barred(FoldError):
    """The loops under these names do not agree under the new kind of the book."""

    def __init__(self, names):
        self.names = _own(names)


class NothingToUndo(FoldError):
    """There is no change that could be undone."""

    def __init__(self):
        super().__init__()
