"""Terms: what is within them, and how one goes through them.

As with statements, this is done by loops, so that nothing depends on how deep a term is.
"""

# For each form the places of the terms within it, each with how many statements more are given there.
INNER = {
    "at": (), "pair": ((1, 0), (2, 0)), "left": ((1, 0),), "right": ((1, 0),), "first": ((1, 0),),
    "second": ((1, 0),), "cases": ((1, 0), (2, 1), (3, 1)), "fun": ((2, 1),), "use": ((1, 0), (2, 0)),
    "off": ((1, 0),),
}


def standing(term):
    """The term itself and all within it, each ahead of those within it, and these in their order.

    They are told as tuples (piece, front), front being how many statements the terms around have put in front.
    """
    found = []
    waiting = [(term, 0)]
    while waiting:
        piece, front = waiting.pop()
        found.append((piece, front))
        for place, more in reversed(INNER[piece[0]]):
            waiting.append((piece[place], front + more))
    return found


def term_folded(pieces, of_piece):
    """What is told of a term when one goes from the innermost terms outwards; pieces are those standing in it.

    of_piece(number, inner) tells of the piece of this number by the list of what was told of those within it.
    """
    told = []
    for number in reversed(range(len(pieces))):
        inner = [told.pop() for place in INNER[pieces[number][0][0]]]
        told.append(of_piece(number, inner))
    return told[0]


def with_inner(piece, inner):
    """The same form of term with these terms within it."""
    told = list(piece)
    for (place, more), term in zip(INNER[piece[0]], inner):
        told[place] = term
    return tuple(told)


def changed(term, of_at):
    """The term with of_at(k, front) in the place of each ("at", k), front being told as above."""
    pieces = standing(term)

    def of_piece(number, inner):
        piece, front = pieces[number]
        if piece[0] == "at":
            return of_at(piece[1], front)
        return with_inner(piece, inner)

    return term_folded(pieces, of_piece)
