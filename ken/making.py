"""Terms made of lines.

Each line gets a term by its own wishes, as they stand there, made of the terms of the lines that it leans on.
For each rule a function is handed the line and these terms as tuples (term, wishes), in their order. What is
not among the line's wishes but is needed is put in front, by "fun", and what shows it is told once, by "use":
put into each place where it is asked, it would make terms too great.
"""

from ken.lines import come_to
from ken.statements import LOW, compared
from ken.terms import changed
from ken.wishes import place


def spot(front, wishes, statement):
    """The number of the statement among those in front and the wishes behind them; it is one of them."""
    for number, one in enumerate(front):
        if compared(one, statement) == 0:
            return number
    return len(front) + place(wishes, statement)


def fitted(leaned, front, wishes):
    """The term of a line that is leaned on, by the statements in front and the wishes behind them."""
    term, own_wishes = leaned

    def of_at(k, ahead):
        return ("at", k if k < ahead else ahead + spot(front, wishes, own_wishes[k - ahead]))

    return changed(term, of_at)


def told_once(statement, shown_by, term):
    """The term, which has the statement in front, with what shows the statement."""
    return ("use", ("fun", statement, term), shown_by)


def of_wish(line, leaned):
    """The goal is given."""
    return ("at", place(line[1], line[2]))


def of_low(line, leaned):
    """The goal by what can't be."""
    return ("off", ("at", place(line[1], LOW)), line[2])


def of_both(line, leaned):
    """The two of them."""
    return ("pair", fitted(leaned[0], [], line[1]), fitted(leaned[1], [], line[1]))


def of_first(line, leaned):
    """The first one."""
    return ("first", fitted(leaned[0], [], line[1]), line[2][2])


def of_second(line, leaned):
    """The second one."""
    return ("second", fitted(leaned[0], [], line[1]), line[2][1])


def of_then(line, leaned):
    """B with A in front."""
    one = line[2][1]
    return ("fun", one, fitted(leaned[0], [one], line[1]))


def of_parts(line, leaned):
    """With A and then B in front, from on."""
    rule, wishes, goal, on, leans = line
    here = place(wishes, on)
    inner = told_once(on[2], ("right", ("at", here + 1)), fitted(leaned[0], [on[2], on[1]], wishes))
    return told_once(on[1], ("left", ("at", here)), inner)


def of_cases(line, leaned):
    """By A in front, and by B in front."""
    rule, wishes, goal, on, leans = line
    return ("cases", ("at", place(wishes, on)), fitted(leaned[0], [on[1]], wishes), fitted(leaned[1], [on[2]], wishes))


def of_known(line, leaned):
    """With B in front, by on and A."""
    rule, wishes, goal, on, leans = line
    shown_by = ("use", ("at", place(wishes, on)), ("at", place(wishes, on[1])))
    return told_once(on[2], shown_by, fitted(leaned[0], [on[2]], wishes))


def of_curried(line, leaned):
    """With "if A then, if B then C" in front, by on and the pair of A and B."""
    rule, wishes, goal, on, leans = line
    one, other = on[1][1:]
    used = ("use", ("at", place(wishes, on) + 2), ("pair", ("at", 1), ("at", 0)))
    shown_by = ("fun", one, ("fun", other, used))
    stated = ("then", one, ("then", other, on[2]))
    return told_once(stated, shown_by, fitted(leaned[0], [stated], wishes))


def of_either(line, leaned):
    """With "if A then C" and then "if B then C" in front, by on and the one of the two."""
    rule, wishes, goal, on, leans = line
    one, other = on[1][1:]
    here = place(wishes, on)
    by_one = ("fun", one, ("use", ("at", here + 1), ("first", ("at", 0), other)))
    by_other = ("fun", other, ("use", ("at", here + 2), ("second", ("at", 0), one)))
    first, second = ("then", one, on[2]), ("then", other, on[2])
    inner = told_once(second, by_other, fitted(leaned[0], [second, first], wishes))
    return told_once(first, by_one, inner)


def of_idle(line, leaned):
    """As it was, on being idle."""
    return fitted(leaned[0], [], line[1])


def of_chain(line, leaned):
    """With C in front, by on and "if A then B"; and this with "if B then C" in front, which on shows, too."""
    rule, wishes, goal, on, leans = line
    one, other = on[1][1:]
    here = place(wishes, on)
    stated = ("then", other, on[2])
    shown_by = ("fun", other, ("use", ("at", here + 1), ("fun", one, ("at", 1))))
    inner_if = told_once(stated, shown_by, fitted(leaned[0], [stated], wishes))
    return told_once(on[2], ("use", ("at", here), inner_if), fitted(leaned[1], [on[2]], wishes))


def of_use(line, leaned):
    """With B in front, by on and A."""
    rule, wishes, goal, on, leans = line
    shown_by = ("use", ("at", place(wishes, on)), fitted(leaned[0], [], wishes))
    return told_once(on[2], shown_by, fitted(leaned[1], [on[2]], wishes))


DEEDS = {
    "wish": of_wish, "low": of_low, "both": of_both, "first": of_first, "second": of_second, "then": of_then,
    "parts": of_parts, "cases": of_cases, "known": of_known, "curried": of_curried, "either": of_either,
    "idle": of_idle, "chain": of_chain, "use": of_use,
}


def term_of(lines):
    """A term that has the last line's goal as its kind, by the last line's wishes; the lines are good ones."""
    last = len(lines) - 1
    terms = {}
    for number in come_to(lines, last):
        line = lines[number]
        deed = DEEDS[line[0]]
        terms[number] = deed(line, [(terms[lean], lines[lean][1]) for lean in line[4]])
    return terms[last]
