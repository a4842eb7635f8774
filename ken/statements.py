"""Statements: what they are made of, and their order.

Statements that were told here may be handed on however deep they are. So everything here goes through
them by loops: neither calls within calls nor Python's own comparing of nested tuples go deep enough.
"""

LOW = ("low",)
PAIRED = ("both", "one", "then")


def within(statement):
    """The statements that this one is made of at once: A and B, or none."""
    if statement[0] in PAIRED:
        return [statement[1], statement[2]]
    return []


def pieces(statement):
    """The statement itself and all within it, as often as they stand there, from the left to the right."""
    found = []
    waiting = [statement]
    while waiting:
        piece = waiting.pop()
        found.append(piece)
        waiting.extend(within(piece)[::-1])
    return found


def folded(statement, of_simple, of_pair):
    """What is told of the statement when one goes from its letters outwards.

    of_simple(piece) tells of a letter, or of what can't be; of_pair(kind, first, second) of a statement by
    what was told of its two ones.
    """
    told = []
    for piece in reversed(pieces(statement)):
        if piece[0] in PAIRED:
            first = told.pop()
            second = told.pop()
            told.append(of_pair(piece[0], first, second))
        else:
            told.append(of_simple(piece))
    return told[0]


def parts(statement):
    """How many parts the statement has, counted as often as they stand in it."""
    return len(pieces(statement))


def deep(statement):
    """How deep the statement is: 1 for a letter and for what can't be."""
    levels = 0
    level = [statement]
    while level:
        levels += 1
        level = [inner for piece in level for inner in within(piece)]
    return levels


def letters(statement):
    """The words in the statement, sorted, each once."""
    return sorted({piece[1] for piece in pieces(statement) if piece[0] == "letter"})


def negated(statement):
    """Not the statement: if it, then what can't be."""
    return ("then", statement, LOW)


def spelled(statement):
    """All texts in the statement in one flat tuple, from the left to the right.

    Its kind tells how much belongs to a statement, so no spelling is the beginning of another one, and
    where two differ first, kind stands by kind and word by word. Hence spellings are sorted as their
    statements are; and being flat, they may be keys.
    """
    return tuple([text for piece in pieces(statement) for text in piece if isinstance(text, str)])


def compared(one, other):
    """A number below 0 where the one is sorted ahead of the other, 0 where they are the same, else above 0."""
    waiting = [(one, other)]
    while waiting:
        first, second = waiting.pop()
        if first[0] != second[0]:
            return -1 if first[0] < second[0] else 1
        if first[0] in PAIRED:
            waiting.append((first[2], second[2]))
            waiting.append((first[1], second[1]))
        elif first != second:
            return -1 if first < second else 1
    return 0


def once(some):
    """The statements, sorted, each once."""
    by_spelling = {spelled(statement): statement for statement in some}
    return [by_spelling[spelling] for spelling in sorted(by_spelling)]
