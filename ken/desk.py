"""The desk: it keeps wishes, and answers rows."""

from ken.decide import decide
from ken.errors import Large, NoRow, NoWish, Twice
from ken.statements import parts
from ken.tables import all_letters, row_against
from ken.texts import read, shown
from ken.wishes import among, more, without

MOST_PARTS = 24
MOST_LETTERS = 12


def wish(desk, statement):
    """The statement is a wish from now on."""
    if among(desk.wishes, statement):
        raise Twice("this is a wish already")
    desk.wishes = more(desk.wishes, [statement])
    return "ok"


def drop(desk, statement):
    """The statement is no wish any more."""
    if not among(desk.wishes, statement):
        raise NoWish("this is no wish")
    desk.wishes = without(desk.wishes, statement)
    return "ok"


def see_to_parts(some):
    """Refuse statements that have too many parts in all."""
    if sum([parts(statement) for statement in some]) > MOST_PARTS:
        raise Large(f"there are more than {MOST_PARTS} parts")


def ask(desk, statement):
    """Whether the statement is shown from the wishes."""
    see_to_parts(desk.wishes + [statement])
    return "shown" if decide(desk.wishes, statement)[0] == "lines" else "open"


def plainly(desk, statement):
    """Whether the statement follows plainly; else words that speak against it."""
    some = desk.wishes + [statement]
    see_to_parts(some)
    if len(all_letters(some)) > MOST_LETTERS:
        raise Large(f"there are more than {MOST_LETTERS} letters")
    row = row_against(desk.wishes, statement)
    return "yes" if row is None else " ".join(["no"] + row)


DEEDS = {"wish": wish, "drop": drop, "ask": ask, "plain": plainly}


class Desk:
    """Wishes, sorted, each once, and what is said of them."""

    def __init__(self):
        self.wishes = []

    def say(self, row):
        """The answer to the row; one that is none of the desk's is refused with NoRow."""
        if row == "wishes":
            return "; ".join([shown(statement) for statement in self.wishes])
        word, blank, text = row.partition(" ")
        if word not in DEEDS or blank == "":
            raise NoRow("there is no such row")
        deed = DEEDS[word]
        return deed(self, read(text))
