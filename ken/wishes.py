"""Wishes as lines have them: lists of statements, sorted, each once."""

from ken.statements import compared


def are_wishes(some):
    """Whether these statements are sorted, each once."""
    return all([compared(one, other) < 0 for one, other in zip(some, some[1:])])


def place(wishes, statement):
    """How many of the wishes are sorted ahead of the statement."""
    least = 0
    most = len(wishes)
    while least < most:
        half = (least + most) // 2
        if compared(wishes[half], statement) < 0:
            least = half + 1
        else:
            most = half
    return least


def among(wishes, statement):
    """Whether the statement is one of the wishes."""
    at = place(wishes, statement)
    return at < len(wishes) and compared(wishes[at], statement) == 0


def without(wishes, statement):
    """The other wishes; the statement is one of them."""
    at = place(wishes, statement)
    return wishes[:at] + wishes[at + 1:]


def more(wishes, some):
    """The wishes with these statements, too."""
    told = list(wishes)
    for statement in some:
        at = place(told, statement)
        if at == len(told) or compared(told[at], statement) != 0:
            told.insert(at, statement)
    return told
