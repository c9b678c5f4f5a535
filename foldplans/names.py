"""Names, and the lines of a text."""

_LETTERS = "abcdefghijklmnopqrstuvwxyz"
_WORDS_OF_LOOPS = ("tags", "sums", "state", "on", "go", "end", "none", "x")
_LONGEST = 12


def is_name(text):
    """Whether a text is a name: 1 to 12 letters, and no word that the lines of a loop are made of."""
    if not 1 <= len(text) <= _LONGEST or text in _WORDS_OF_LOOPS:
        return False
    return all([letter in _LETTERS for letter in text])


def lines_of(text):
    """The lines of a text; the empty text has none."""
    if not text:
        return []
    return text.split("\n")
