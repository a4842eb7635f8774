"""Plain tables: what is true by the words that are."""

from ken.statements import folded, letters


def plain(statement, trues):
    """Whether the statement is true where these words are, and no others."""
    true_words = {word: True for word in trues}

    def of_simple(piece):
        return piece[0] == "letter" and piece[1] in true_words

    def of_pair(kind, first, second):
        if kind == "both":
            return first and second
        if kind == "one":
            return first or second
        return not first or second

    return folded(statement, of_simple, of_pair)


def all_letters(some):
    """The words in these statements, sorted, each once."""
    return sorted({word for statement in some for word in letters(statement)})


def columns_of(words):
    """A column for each word, and the column that is true in all rows.

    A column is a whole number that has a bit for each row of the table, and bit r tells of row r. In row r
    the words are true at whose places, from 0, r has a bit itself.
    """
    columns = {}
    rows = 1
    everywhere = 1
    for word in words:
        columns = {each: columns[each] | columns[each] << rows for each in columns}
        columns[word] = everywhere << rows
        everywhere = everywhere | everywhere << rows
        rows = 2 * rows
    return columns, everywhere


def column(statement, columns, everywhere):
    """The rows in which the statement is true."""

    def of_simple(piece):
        return columns[piece[1]] if piece[0] == "letter" else 0

    def of_pair(kind, first, second):
        if kind == "both":
            return first & second
        if kind == "one":
            return first | second
        return everywhere ^ first | second

    return folded(statement, of_simple, of_pair)


def row_against(wishes, goal):
    """Words by which all wishes are true and the goal isn't, sorted, each once; None where there are none."""
    words = all_letters(wishes + [goal])
    columns, everywhere = columns_of(words)
    against = everywhere ^ column(goal, columns, everywhere)
    for wish in wishes:
        against = against & column(wish, columns, everywhere)
    if against == 0:
        return None
    row = against.bit_length() - 1
    return [word for place, word in enumerate(words) if row >> place & 1]
