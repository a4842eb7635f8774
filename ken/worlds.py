"""Worlds: whether they are good ones, which are later, and what is known at each of them."""

from ken.errors import NoWorlds
from ken.statements import folded, letters
from ken.texts import word_end


def is_word(text):
    """Whether the text is a word: one to eight of the small letters."""
    return text != "" and word_end(text, 0) == len(text)


def are_letters(words):
    """Whether these are words, sorted, each once."""
    return all([is_word(word) for word in words]) and sorted(set(words)) == words


def is_good(worlds, number):
    """Whether this world is a good one; those ahead of it are."""
    before, words = worlds[number]
    if not are_letters(words):
        return False
    if number == 0:
        return before is None
    if before is None or not 0 <= before < number:
        return False
    return len(set(worlds[before][1]) - set(words)) == 0


def look(worlds):
    """True for good worlds; others are refused with NoWorlds."""
    if not worlds:
        raise NoWorlds(0)
    for number in range(len(worlds)):
        if not is_good(worlds, number):
            raise NoWorlds(number)
    return True


def later(worlds, world):
    """The numbers of the world itself and of all later ones, rising."""
    found = {world: True}
    for number in range(world + 1, len(worlds)):
        if worlds[number][0] in found:
            found[number] = True
    return list(found)


def where_letters(worlds, words):
    """For each of these words a list of truths: whether each world has it among its letters."""
    truths = {word: [False] * len(worlds) for word in words}
    for number, (before, here) in enumerate(worlds):
        for word in here:
            if word in truths:
                truths[word][number] = True
    return truths


def where_then(worlds, first, second):
    """The truths of "if then", made of those of its two statements."""
    truths = [not one or other for one, other in zip(first, second)]
    # From the last world to the first: each one has heard of all its later ones before it tells the one before it.
    for number in range(len(worlds) - 1, 0, -1):
        if not truths[number]:
            truths[worlds[number][0]] = False
    return truths


def known(worlds, statement):
    """For each world a truth: whether the statement is known there."""
    truths = where_letters(worlds, letters(statement))

    def of_simple(piece):
        return truths[piece[1]] if piece[0] == "letter" else [False] * len(worlds)

    def of_pair(kind, first, second):
        if kind == "both":
            return [one and other for one, other in zip(first, second)]
        if kind == "one":
            return [one or other for one, other in zip(first, second)]
        return where_then(worlds, first, second)

    return folded(statement, of_simple, of_pair)
