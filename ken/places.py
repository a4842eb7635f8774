"""Places: a statement in the place of a word, and lines from one that stands there to another one.

Of each part of the statement lines show, from the two "if"s and the part with what stands there before, the part
with what stands there after. Within the A of an "if A then B" this goes the other way round.
"""

from ken.statements import PAIRED, compared, folded, once
from ken.wishes import more


def placed(statement, word, other):
    """The statement with the other one in the place of each letter of this word."""

    def of_simple(piece):
        return other if piece == ("letter", word) else piece

    def of_pair(kind, first, second):
        return (kind, first, second)

    return folded(statement, of_simple, of_pair)


def directed(statement):
    """The parts of the statement, as tuples (part, back): back tells that there it goes from the other to the one."""
    found = []
    waiting = [(statement, False)]
    while waiting:
        part, back = waiting.pop()
        found.append((part, back))
        if part[0] in PAIRED:
            waiting.append((part[2], back))
            waiting.append((part[1], not back if part[0] == "then" else back))
    return found


def by_simple(lines, ifs, before, after):
    """Lines for a letter, or for what can't be."""
    if compared(before, after) == 0:
        lines.append(("wish", more(ifs, [before]), after, None, []))
    else:
        lines.append(("wish", [after], after, None, []))
        lines.append(("known", more(ifs, [before]), after, ("then", before, after), [len(lines) - 1]))
    return (before, after, len(lines) - 1)


def by_both(lines, ifs, first, second):
    """Lines for "both": the two ones apart, then each, then both again."""
    before = ("both", first[0], second[0])
    after = ("both", first[1], second[1])
    lines.append(("both", more(ifs, [first[0], second[0]]), after, None, [first[2], second[2]]))
    lines.append(("parts", more(ifs, [before]), after, before, [len(lines) - 1]))
    return (before, after, len(lines) - 1)


def by_one(lines, ifs, first, second):
    """Lines for "one": each case by itself."""
    before = ("one", first[0], second[0])
    after = ("one", first[1], second[1])
    lines.append(("first", more(ifs, [first[0]]), after, None, [first[2]]))
    lines.append(("second", more(ifs, [second[0]]), after, None, [second[2]]))
    lines.append(("cases", more(ifs, [before]), after, before, [len(lines) - 2, len(lines) - 1]))
    return (before, after, len(lines) - 1)


def by_then(lines, ifs, first, second):
    """Lines for "if then": back to what it asks, and on from what it tells."""
    before = ("then", first[1], second[0])
    after = ("then", first[0], second[1])
    lines.append(("use", more(ifs, [before, first[0]]), second[1], before, [first[2], second[2]]))
    lines.append(("then", more(ifs, [before]), after, None, [len(lines) - 1]))
    return (before, after, len(lines) - 1)


DEEDS = {"both": by_both, "one": by_one, "then": by_then}


def swapped(statement, word, one, other):
    """Lines that show, from the two "if"s and the statement with the one in the word's place, it with the other."""
    ifs = once([("then", one, other), ("then", other, one)])
    lines = []
    told = []
    for part, back in reversed(directed(statement)):
        if part[0] in PAIRED:
            deed = DEEDS[part[0]]
            first = told.pop()
            second = told.pop()
            told.append(deed(lines, ifs, first, second))
        else:
            with_one, with_other = placed(part, word, one), placed(part, word, other)
            told.append(by_simple(lines, ifs, with_other, with_one) if back else
                        by_simple(lines, ifs, with_one, with_other))
    return lines
