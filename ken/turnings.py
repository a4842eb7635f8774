"""Turnings of terms, one by one and until there is none."""

from ken.errors import Large, NoTurning
from ken.kinds import term_deep, term_parts
from ken.spots import put
from ken.terms import standing, term_folded, with_inner

MOST_PARTS = 1000
MOST_DEEP = 120
MOST_STEPS = 150

# For each form that may turn, the forms of the first term within it by which it does.
TURNING = {"left": ("pair",), "right": ("pair",), "use": ("fun",), "cases": ("first", "second")}


def turns(term):
    """Whether the term itself is one of those that turn."""
    return term[0] in TURNING and term[1][0] in TURNING[term[0]]


def turned_itself(term):
    """What the term, which is one of those that turn, turns to."""
    inner = term[1]
    if term[0] == "left":
        return inner[1]
    if term[0] == "right":
        return inner[2]
    if term[0] == "use":
        return put(inner[2], term[2])
    return put(term[2 if inner[0] == "first" else 3], inner[1])


def turning_places(pieces):
    """The places among a term's pieces at which those stand that turn."""
    return [place for place, (piece, front) in enumerate(pieces) if turns(piece)]


def turnings(term):
    """How many turnings the term has."""
    return len(turning_places(standing(term)))


def turned(term, number):
    """The term turned at this number; refused with NoTurning where there is none, with Large where it grows so."""
    pieces = standing(term)
    places = turning_places(pieces)
    if not 0 <= number < len(places):
        raise NoTurning(f"there are {len(places)} turnings")

    def of_piece(place, inner):
        if place == places[number]:
            return turned_itself(pieces[place][0])
        return with_inner(pieces[place][0], inner)

    told = term_folded(pieces, of_piece)
    if term_parts(told) > MOST_PARTS or term_deep(told) > MOST_DEEP:
        raise Large("the turned term has too many parts, or is too deep")
    return told


def brought(term):
    """The term turned at 0 until it has no turning; refused with Large where this takes too much."""
    for step in range(MOST_STEPS):
        if turnings(term) == 0:
            return term
        term = turned(term, 0)
    if turnings(term) > 0:
        raise Large(f"the term still turns behind {MOST_STEPS} turnings")
    return term
