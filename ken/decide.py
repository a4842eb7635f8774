"""Shown or spoken against: lines that show a goal from wishes, or worlds where these are known and it isn't."""

from ken.rules import uses
from ken.statements import once, spelled
from ken.worlds import known

# By one of these nothing is lost: its needs are shown just where the whole is. Those with two needs come last.
SURE = ("wish", "low", "then", "parts", "known", "idle", "curried", "either", "both", "cases")
# By one of these something may be lost, so all of them are tried.
DOUBTFUL = ("first", "second", "chain")


class Question:
    """Wishes and a goal that are asked for, and what is found out of them.

    The ways are tuples (rule, on, questions). There is one sure way, or some doubtful ones; shown is None as
    long as it isn't found out, then True, by the way that shows it, or False, by worlds.
    """

    def __init__(self, wishes, goal):
        self.wishes = wishes
        self.goal = goal
        self.sure = None
        self.doubtful = []
        self.shown = None
        self.way = None
        self.worlds = []


def key_of(wishes, goal):
    """All texts in the wishes and the goal: no spelling begins another one, so other ones have another key."""
    return tuple([text for statement in wishes + [goal] for text in spelled(statement)])


def question_of(asked, wishes, goal):
    """The one question of these wishes and this goal among all that are asked."""
    key = key_of(wishes, goal)
    if key not in asked:
        asked[key] = Question(wishes, goal)
    return asked[key]


def asked_way(asked, way):
    """The way with questions as its needs."""
    rule, on, needed = way
    return (rule, on, [question_of(asked, wishes, goal) for wishes, goal in needed])


def plan(asked, question):
    """Give the question its sure way, or else its doubtful ones."""
    for rule in SURE:
        found = uses(rule, question.wishes, question.goal)
        if found:
            question.sure = asked_way(asked, found[0])
            return
    for rule in DOUBTFUL:
        for way in uses(rule, question.wishes, question.goal):
            question.doubtful.append(asked_way(asked, way))


def decided_by(question, way):
    """Let the way decide the question; or tell a need of it that is to be found out ahead."""
    for need in way[2]:
        if need.shown is None:
            return need
        if not need.shown:
            question.shown = False
            question.worlds = need.worlds
            return None
    question.shown = True
    question.way = way
    return None


def behind(worlds, shift):
    """These worlds with greater numbers, as they stand behind a world 0."""
    return [(0 if before is None else before + shift, words) for before, words in worlds]


def worlds_against(question):
    """A world that knows the letters among the wishes, and behind it what was told against the first needs.

    No goal of a first need may be known at it. One that is gets the worlds against it, and is never known
    there again; but others that weren't known may be by then, so they are all asked anew.
    """
    firsts = [needed[0] for rule, on, needed in question.doubtful]
    worlds = [(None, [wish[1] for wish in question.wishes if wish[0] == "letter"])]
    while True:
        known_ones = [need for need in firsts if known(worlds, need.goal)[0]]
        if not known_ones:
            return worlds
        worlds.extend(behind(known_ones[0].worlds, len(worlds)))


def find_out(question):
    """Find the question out by its needs; or tell one of them that is to be found out ahead."""
    if question.sure is not None:
        return decided_by(question, question.sure)
    for way in question.doubtful:
        first = way[2][0]
        if first.shown is None:
            return first
        if first.shown:
            return decided_by(question, way)
    question.shown = False
    question.worlds = worlds_against(question)
    return None


def answer(start):
    """Find this question out, and ahead of it all that it takes.

    Those that wait for another one wait in a list, since calls within calls may not go deep enough.
    """
    asked = {}
    waiting = [start]
    plan(asked, start)
    while waiting:
        need = find_out(waiting[-1])
        if need is None:
            waiting.pop()
        else:
            plan(asked, need)
            waiting.append(need)


def lines_of(start):
    """Lines that show the question, each behind those that it leans on."""
    lines = []
    numbers = {}
    waiting = [start]
    while waiting:
        question = waiting[-1]
        rule, on, needed = question.way
        missing = [need for need in needed if need not in numbers]
        waiting.extend(missing[::-1])
        if not missing:
            waiting.pop()
            if question not in numbers:
                numbers[question] = len(lines)
                lines.append((rule, list(question.wishes), question.goal, on, [numbers[need] for need in needed]))
    return lines


def decide(wishes, goal):
    """("lines", lines) that show the goal from the wishes, or ("worlds", worlds) that speak against it."""
    start = Question(once(wishes), goal)
    answer(start)
    if start.shown:
        return ("lines", lines_of(start))
    return ("worlds", [(before, list(words)) for before, words in start.worlds])
