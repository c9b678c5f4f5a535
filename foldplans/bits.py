"""Sets of numbers, each written as one number: it has a bit for each member."""


def set_of(members):
    """The set of these numbers."""
    found = 0
    for member in members:
        found = found | (1 << member)
    return found


def has_member(chosen, member):
    """Whether the number is a member of the set."""
    return (chosen >> member) & 1 == 1


def union_of(images, chosen):
    """What the images of all members of a set have together; the images are sets, too."""
    found = 0
    while chosen:
        lowest = chosen & -chosen
        found = found | images[lowest.bit_length() - 1]
        chosen = chosen ^ lowest
    return found


def members_of(chosen):
    """The members of a set, in ascending order."""
    found = []
    while chosen:
        lowest = chosen & -chosen
        found.append(lowest.bit_length() - 1)
        chosen = chosen ^ lowest
    return found
