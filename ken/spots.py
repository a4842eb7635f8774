"""Spots: a term put in where another one speaks of the statement in front."""

from ken.terms import changed, standing


def lifted(term, by):
    """The term where so many statements more are given in front."""

    def of_at(k, front):
        return ("at", k + by if k >= front else k)

    return changed(term, of_at)


def put(term, other):
    """The term, which has a statement in front of its given ones, with the other one in that statement's place."""
    fronts = sorted({front for piece, front in standing(term) if piece == ("at", front)})
    lifts = {front: lifted(other, front) for front in fronts}

    def of_at(k, front):
        if k == front:
            return lifts[front]
        return ("at", k - 1 if k > front else k)

    return changed(term, of_at)
