"""Statements to test with, and what is told of them in another way than the package tells it."""

import random

LOW = ("low",)
A = ("letter", "a")
B = ("letter", "b")
C = ("letter", "c")
PAIRED = ("both", "one", "then")
WORDS = ("a", "b", "c", "ab", "abc", "abcdefgh", "z", "zzzzzzzz", "low", "one", "both", "then", "letter")


def random_statement(chance, parts, deep=40):
    """A statement of just this odd number of parts, at most so deep, where both can be had together."""
    if parts == 1:
        return LOW if chance.random() < 0.2 else ("letter", chance.choice(WORDS))
    most = 2 ** (deep - 1) - 1
    least = max(1, parts - 1 - most)
    first = chance.randrange(least, min(parts - 2, most) + 1, 2)
    kind = chance.choice(PAIRED)
    second = parts - 1 - first
    if kind == "then" and second == 1 and chance.random() < 0.5:
        return (kind, random_statement(chance, first, deep - 1), LOW)
    return (kind, random_statement(chance, first, deep - 1), random_statement(chance, second, deep - 1))


def random_statements(seed, many, most_parts=299):
    """Some statements, small and great ones, the same ones for the same seed."""
    chance = random.Random(seed)
    return [random_statement(chance, chance.randrange(1, most_parts + 1, 2)) for number in range(many)]


def ladder(deep, kind, on_left=True):
    """A statement with one long arm: so deep, and of 2 * deep - 1 parts."""
    statement = LOW
    for number in range(deep - 1):
        rung = ("letter", "abcdefgh"[number % 8])
        statement = (kind, statement, rung) if on_left else (kind, rung, statement)
    return statement


def full(deep, kind, leaf):
    """A statement with two equal arms at each place: so deep, and of 2 ** deep - 1 parts."""
    statement = leaf
    for number in range(deep - 1):
        statement = (kind, statement, statement)
    return statement


def greatest():
    """A statement that is 40 deep and has 299 parts, the most that there can be up to 300."""
    arm = full(7, "both", A)
    for number in range(32):
        arm = ("then", arm, LOW)
    other_arm = random_statement(random.Random(7), 107, 39)
    return ("one", arm, other_arm)


def counted(statement):
    """Its parts, its depth, its words, by a call within a call."""
    if statement[0] == "low":
        return 1, 1, set()
    if statement[0] == "letter":
        return 1, 1, {statement[1]}
    parts_a, deep_a, words_a = counted(statement[1])
    parts_b, deep_b, words_b = counted(statement[2])
    return 1 + parts_a + parts_b, 1 + max(deep_a, deep_b), words_a | words_b


def random_worlds(chance, many, words=("a", "b", "c")):
    """Good worlds, so many; few letters at first, more of them later."""
    worlds = [(None, sorted(word for word in words if chance.random() < 0.1))]
    for number in range(1, many):
        before = chance.randrange(number) if chance.random() < 0.7 else number - 1
        more = {word for word in words if chance.random() < 0.25}
        worlds.append((before, sorted(more | set(worlds[before][1]))))
    return worlds


def row_of_worlds(many, word_from):
    """Good worlds, each one behind the last; a word is known from the world that word_from tells on."""
    return [(number - 1 if number else None, sorted(word for word in word_from if number >= word_from[word]))
            for number in range(many)]


def is_later(worlds, one, other):
    """Whether other is one, or stands somewhere behind it."""
    while other is not None and other != one:
        other = worlds[other][0]
    return other == one


def known_at(worlds, world, statement):
    """Whether the statement is known at the world, as the words of the document tell it."""
    kind = statement[0]
    if kind == "low":
        return False
    if kind == "letter":
        return statement[1] in worlds[world][1]
    if kind == "both":
        return known_at(worlds, world, statement[1]) and known_at(worlds, world, statement[2])
    if kind == "one":
        return known_at(worlds, world, statement[1]) or known_at(worlds, world, statement[2])
    return all(known_at(worlds, other, statement[2]) for other in range(len(worlds))
               if is_later(worlds, world, other) and known_at(worlds, other, statement[1]))


def is_true(statement, trues):
    """Whether the statement is plainly true, as the words of the document tell it."""
    kind = statement[0]
    if kind == "low":
        return False
    if kind == "letter":
        return statement[1] in trues
    one, other = is_true(statement[1], trues), is_true(statement[2], trues)
    return {"both": one and other, "one": one or other, "then": (not one) or other}[kind]


def small_statements(words):
    """All statements of at most three parts of these words."""
    simple = [LOW] + [("letter", word) for word in words]
    return simple + [(kind, one, other) for kind in PAIRED for one in simple for other in simple]


def random_question(chance, words, total=24):
    """Wishes and a goal of at most so many parts in all, of these words."""
    goal = few_words(chance, chance.choice([many for many in (1, 1, 3, 5, 9, 15, 23) if many <= total]), words)
    left = total - counted(goal)[0]
    wishes = []
    while left > 0 and chance.random() < 0.85:
        wish = few_words(chance, chance.choice([many for many in (1, 3, 3, 5, 7, 11, 19) if many <= left]), words)
        wishes.append(wish)
        left -= counted(wish)[0]
    return wishes, goal


def few_words(chance, parts, words):
    """A statement of just this odd number of parts, of these words."""
    if parts == 1:
        return LOW if chance.random() < 0.12 else ("letter", chance.choice(words))
    first = chance.randrange(1, parts - 1, 2)
    kind = chance.choice(("both", "one", "then", "then"))
    return (kind, few_words(chance, first, words), few_words(chance, parts - 1 - first, words))


def lists_in(thing):
    """All lists that stand in a thing, itself too."""
    found = [thing] if isinstance(thing, list) else []
    if isinstance(thing, (list, tuple)):
        for inner in thing:
            found.extend(lists_in(inner))
    return found


def own_lists(*things):
    """Whether no list stands in these things twice."""
    found = [id(one) for thing in things for one in lists_in(thing)]
    return len(found) == len(set(found))


def in_order(some):
    """The statements sorted as Python sorts tuples, each once."""
    return sorted(set(some))


FREE_RULES = ("wish", "low", "both", "first", "second", "then")
RULES = FREE_RULES + ("parts", "cases", "known", "curried", "either", "idle", "chain", "use")


def told_needs(rule, wishes, goal, on):
    """The needs as the words of the document tell them, or None where the rule can't stand so."""
    if rule not in RULES or (on is None) != (rule in FREE_RULES) or (on is not None and on not in wishes):
        return None
    if rule in ("wish", "low"):
        return [] if (goal if rule == "wish" else LOW) in wishes else None
    if on is None:
        kind = {"both": "both", "first": "one", "second": "one", "then": "then"}[rule]
        if goal[0] != kind:
            return None
        same = in_order(wishes)
        return {"both": [(same, goal[1]), (list(same), goal[2])], "first": [(same, goal[1])],
                "second": [(same, goal[2])], "then": [(in_order(wishes + [goal[1]]), goal[2])]}[rule]

    def with_these(*some):
        return in_order([wish for wish in wishes if wish != on] + list(some))

    if rule in ("parts", "cases"):
        if on[0] != {"parts": "both", "cases": "one"}[rule]:
            return None
        if rule == "parts":
            return [(with_these(on[1], on[2]), goal)]
        return [(with_these(on[1]), goal), (with_these(on[2]), goal)]
    if on[0] != "then":
        return None
    first, last = on[1], on[2]
    if rule == "known":
        return [(with_these(last), goal)] if first in wishes else None
    if rule == "use":
        return [(in_order(wishes), first), (in_order(wishes + [last]), goal)]
    if first[0] != {"curried": "both", "either": "one", "idle": "low", "chain": "then"}[rule]:
        return None
    if rule == "idle":
        return [(with_these(), goal)]
    one, other = first[1], first[2]
    return {"curried": [(with_these(("then", one, ("then", other, last))), goal)],
            "either": [(with_these(("then", one, last), ("then", other, last)), goal)],
            "chain": [(with_these(("then", other, last)), first), (with_these(last), goal)]}[rule]


def first_bad_line(lines):
    """The number of the first bad line as the words of the document tell it; None where all are good ones."""
    for number, (rule, wishes, goal, on, leans) in enumerate(lines):
        if wishes != in_order(wishes):
            return number
        needed = told_needs(rule, wishes, goal, on)
        if needed is None or len(leans) != len(needed) or any(not 0 <= lean < number for lean in leans):
            return number
        for lean, (needed_wishes, needed_goal) in zip(leans, needed):
            if lines[lean][2] != needed_goal or not set(lines[lean][1]) <= set(needed_wishes) | set(wishes):
                return number
    return None if lines else 0
