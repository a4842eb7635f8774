"""Statements as texts, there and back.

Both ways go by loops, so that neither depends on how deep a statement or a text is.
"""

from ken.errors import NoText
from ken.statements import LOW, negated

SIGNS = {"both": "&", "one": "|", "then": ">"}
KINDS = {"&": "both", "|": "one", ">": "then"}
LONGEST_WORD = 8


def one_step(statement):
    """The statement's text as a list of texts and of the statements whose own texts stand between them."""
    kind = statement[0]
    if kind == "low":
        return ["0"]
    if kind == "letter":
        return [statement[1]]
    if kind == "then" and statement[2] == LOW:
        return ["~", statement[1]]
    return ["(", statement[1], f" {SIGNS[kind]} ", statement[2], ")"]


def shown(statement):
    """The statement's text."""
    told = []
    waiting = [statement]
    while waiting:
        piece = waiting.pop()
        if isinstance(piece, str):
            told.append(piece)
        else:
            waiting.extend(one_step(piece)[::-1])
    return "".join(told)


def past(text, at, sign):
    """The place behind this sign, which alone can stand at this one."""
    if text[at:at + 1] != sign:
        raise NoText(at)
    return at + 1


def word_end(text, at):
    """The place behind the word that begins here; the place itself where none does."""
    end = at
    while end < at + LONGEST_WORD and "a" <= text[end:end + 1] <= "z":
        end += 1
    return end


def read_simple(text, at):
    """What can't be, or the letter, that stands here, and the place behind it."""
    if text[at:at + 1] == "0":
        return LOW, at + 1
    end = word_end(text, at)
    if end == at:
        raise NoText(at)
    return ("letter", text[at:end]), end


def read_kind(text, at):
    """The kind whose sign stands here between its two blanks, and the place behind them."""
    at = past(text, at, " ")
    sign = text[at:at + 1]
    if sign not in KINDS:
        raise NoText(at)
    return KINDS[sign], past(text, at + 1, " ")


def openings_end(text, at):
    """The place behind all of ( and ~ that stand here in a row."""
    while text[at:at + 1] in ("(", "~"):
        at += 1
    return at


def at_end(text, at, statement):
    """The statement, where nothing more stands in the text."""
    if at < len(text):
        raise NoText(at)
    return statement


def read(text):
    """The statement that the text shows; a text that shows none is refused with NoText.

    What has begun and isn't whole is kept, the innermost last: ("~", None) and ("(", None) wait for their
    first statement, (kind, A) for its second one. Every sign is gone past only where some whole text goes
    on from there, so the first place that can't be passed is the one that NoText tells.
    """
    begun = []
    at = 0
    while True:
        end = openings_end(text, at)
        begun.extend([(sign, None) for sign in text[at:end]])
        statement, at = read_simple(text, end)
        while begun and begun[-1][0] != "(":
            kind, first = begun.pop()
            if kind == "~":
                statement = negated(statement)
            else:
                at = past(text, at, ")")
                statement = (kind, first, statement)
        if not begun:
            return at_end(text, at, statement)
        kind, at = read_kind(text, at)
        begun[-1] = (kind, statement)
