"""Kinds of terms, their parts, and how deep they are."""

from ken.errors import NoKind
from ken.statements import LOW, PAIRED, folded
from ken.terms import INNER, standing, term_folded


class Book:
    """Statements by numbers, the same number for the same statement.

    The kinds within a term may be far greater than the term, being made of one another again and again. By
    their numbers they are the same at a glance. The row of a number is the statement itself where it has one
    part, else a tuple of its kind and the numbers of its two statements.
    """

    def __init__(self):
        self.rows = []
        self.statements = []
        self.numbers = {}


class Asked:
    """A term that is asked for its kind.

    front are the numbers of the statements that the terms around it have put in front, the last one first;
    kinds are those of the terms within it, as far as they are found.
    """

    def __init__(self, term, front):
        self.term = term
        self.front = front
        self.kinds = []


def noted(book, row):
    """The number of this row in the book."""
    if row not in book.numbers:
        book.numbers[row] = len(book.rows)
        book.rows.append(row)
        if row[0] in PAIRED:
            book.statements.append((row[0], book.statements[row[1]], book.statements[row[2]]))
        else:
            book.statements.append(row)
    return book.numbers[row]


def number_of(book, statement):
    """The number of this statement in the book."""

    def of_simple(piece):
        return noted(book, piece)

    def of_two(name, first, second):
        return noted(book, (name, first, second))

    return folded(statement, of_simple, of_two)


def row_of(book, number, name):
    """The row of this number, which must be of a statement of this kind."""
    row = book.rows[number]
    if row[0] != name:
        raise NoKind(f"a term has a kind other than {name} where this is asked")
    return row


def of_pair(book, term, kinds):
    """Both of the two kinds."""
    return noted(book, ("both", kinds[0], kinds[1]))


def of_left(book, term, kinds):
    """The first one of a kind "both"."""
    return row_of(book, kinds[0], "both")[1]


def of_right(book, term, kinds):
    """The second one of a kind "both"."""
    return row_of(book, kinds[0], "both")[2]


def of_first(book, term, kinds):
    """One of the two, the first one being shown."""
    return noted(book, ("one", kinds[0], number_of(book, term[2])))


def of_second(book, term, kinds):
    """One of the two, the second one being shown."""
    return noted(book, ("one", number_of(book, term[2]), kinds[0]))


def of_cases(book, term, kinds):
    """The one kind that both cases have."""
    if kinds[1] != kinds[2]:
        raise NoKind("two cases have different kinds")
    return kinds[1]


def of_fun(book, term, kinds):
    """If what is put in front, then the kind with it."""
    return noted(book, ("then", number_of(book, term[1]), kinds[0]))


def of_use(book, term, kinds):
    """What is behind the "if", where the other one has the kind that is ahead of it."""
    row = row_of(book, kinds[0], "then")
    if row[1] != kinds[1]:
        raise NoKind("a term is used with one of another kind than it asks")
    return row[2]


def of_off(book, term, kinds):
    """Whatever is asked, by what can't be."""
    row_of(book, kinds[0], LOW[0])
    return number_of(book, term[2])


DEEDS = {
    "pair": of_pair, "left": of_left, "right": of_right, "first": of_first, "second": of_second,
    "cases": of_cases, "fun": of_fun, "use": of_use, "off": of_off,
}


def of_at(book, asked, given):
    """The kind of ("at", k): what stands in front comes ahead of what is given."""
    k = asked.term[1]
    ahead = len(asked.front)
    if 0 <= k < ahead:
        return asked.front[k]
    if not ahead <= k < ahead + len(given):
        raise NoKind("a term speaks of a statement that is not given")
    return number_of(book, given[k - ahead])


def kind_by(book, asked, given):
    """The kind of the term by the kinds of those within it."""
    if asked.term[0] == "at":
        return of_at(book, asked, given)
    deed = DEEDS[asked.term[0]]
    return deed(book, asked.term, asked.kinds)


def put_in_front(book, asked):
    """The statement that is put in front of the next term within this one."""
    if asked.term[0] == "fun":
        return number_of(book, asked.term[1])
    # The first case is asked with one kind found, the second one with two.
    return row_of(book, asked.kinds[0], "one")[len(asked.kinds)]


def next_within(book, asked):
    """The next term within this one, asked for its kind."""
    place, more = INNER[asked.term[0]][len(asked.kinds)]
    front = asked.front
    if more:
        front = [put_in_front(book, asked)] + front
    return Asked(asked.term[place], front)


def kind(term, given):
    """The kind of the term by the given statements; one that has none is refused with NoKind."""
    book = Book()
    waiting = [Asked(term, [])]
    while True:
        asked = waiting[-1]
        if len(asked.kinds) < len(INNER[asked.term[0]]):
            waiting.append(next_within(book, asked))
        else:
            found = kind_by(book, asked, given)
            waiting.pop()
            if not waiting:
                return book.statements[found]
            waiting[-1].kinds.append(found)


def term_parts(term):
    """How many parts the term has: itself and the terms within it, as often as they stand there."""
    return len(standing(term))


def term_deep(term):
    """How deep the term is: 1 where no term is within it."""

    def of_piece(number, inner):
        return 1 + max(inner, default=0)

    return term_folded(standing(term), of_piece)
