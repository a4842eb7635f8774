"""Statements to test with, and what is told of them in another way than the package tells it."""

import random

from ken import errors
from ken.texts import read

LOW = ("low",)
A = ("letter", "a")
B = ("letter", "b")
C = ("letter", "c")
PAIRED = ("both", "one", "then")
WORDS = ("a", "b", "c", "ab", "abc", "abcdefgh", "z", "zzzzzzzz", "low", "one", "both", "then", "letter")


def refused_with(test, error, deed, *things):
    """The refusal, which is a KenError and a ValueError, and of no other class of the program's."""
    with test.assertRaises(error) as caught:
        deed(*things)
    test.assertIsInstance(caught.exception, errors.KenError)
    test.assertIsInstance(caught.exception, ValueError)
    others = [other for other in vars(errors).values()
              if isinstance(other, type) and other not in (error, errors.KenError)]
    test.assertEqual(len(others), 10)
    for other in others:
        test.assertNotIsInstance(caught.exception, other)
    return caught.exception


def some_read(texts):
    """The statements of these texts, which are parted as the desk parts them, in this order."""
    return [read(text) for text in texts.split("; ")] if texts else []


def random_statement(chance, parts, deep=40):
    """A statement of just this odd number of parts, at most so deep, where both can be had together."""
    if parts == 1:
        return LOW if chance.random() < 0.2 else ("letter", chance.choice(WORDS))
    most = 2 ** (deep - 1) - 1
    least = max(1, parts - 1 - most)
    first = chance.randrange(least, min(parts - 2, most) + 1, 2)
    kind = chance.choice(PAIRED)
    second = parts - 1 - first
    if kind == "then" and second == 1 and chance.random() < 0.5:
        return (kind, random_statement(chance, first, deep - 1), LOW)
    return (kind, random_statement(chance, first, deep - 1), random_statement(chance, second, deep - 1))


def random_statements(seed, many, most_parts=299):
    """Some statements, small and great ones, the same ones for the same seed."""
    chance = random.Random(seed)
    return [random_statement(chance, chance.randrange(1, most_parts + 1, 2)) for number in range(many)]


def ladder(deep, kind, on_left=True):
    """A statement with one long arm: so deep, and of 2 * deep - 1 parts."""
    statement = LOW
    for number in range(deep - 1):
        rung = ("letter", "abcdefgh"[number % 8])
        statement = (kind, statement, rung) if on_left else (kind, rung, statement)
    return statement


def full(deep, kind, leaf):
    """A statement with two equal arms at each place: so deep, and of 2 ** deep - 1 parts."""
    statement = leaf
    for number in range(deep - 1):
        statement = (kind, statement, statement)
    return statement


def greatest():
    """A statement that is 40 deep and has 299 parts, the most that there can be up to 300."""
    arm = full(7, "both", A)
    for number in range(32):
        arm = ("then", arm, LOW)
    other_arm = random_statement(random.Random(7), 107, 39)
    return ("one", arm, other_arm)


def counted(statement):
    """Its parts, its depth, its words, by a call within a call."""
    if statement[0] == "low":
        return 1, 1, set()
    if statement[0] == "letter":
        return 1, 1, {statement[1]}
    parts_a, deep_a, words_a = counted(statement[1])
    parts_b, deep_b, words_b = counted(statement[2])
    return 1 + parts_a + parts_b, 1 + max(deep_a, deep_b), words_a | words_b


def random_worlds(chance, many, words=("a", "b", "c")):
    """Good worlds, so many; few letters at first, more of them later."""
    worlds = [(None, sorted(word for word in words if chance.random() < 0.1))]
    for number in range(1, many):
        before = chance.randrange(number) if chance.random() < 0.7 else number - 1
        more = {word for word in words if chance.random() < 0.25}
        worlds.append((before, sorted(more | set(worlds[before][1]))))
    return worlds


def row_of_worlds(many, word_from):
    """Good worlds, each one behind the last; a word is known from the world that word_from tells on."""
    return [(number - 1 if number else None, sorted(word for word in word_from if number >= word_from[word]))
            for number in range(many)]


def is_later(worlds, one, other):
    """Whether other is one, or stands somewhere behind it."""
    while other is not None and other != one:
        other = worlds[other][0]
    return other == one


def known_at(worlds, world, statement):
    """Whether the statement is known at the world, as the words of the document tell it."""
    kind = statement[0]
    if kind == "low":
        return False
    if kind == "letter":
        return statement[1] in worlds[world][1]
    if kind == "both":
        return known_at(worlds, world, statement[1]) and known_at(worlds, world, statement[2])
    if kind == "one":
        return known_at(worlds, world, statement[1]) or known_at(worlds, world, statement[2])
    return all(known_at(worlds, other, statement[2]) for other in range(len(worlds))
               if is_later(worlds, world, other) and known_at(worlds, other, statement[1]))


def is_true(statement, trues):
    """Whether the statement is plainly true, as the words of the document tell it."""
    kind = statement[0]
    if kind == "low":
        return False
    if kind == "letter":
        return statement[1] in trues
    one, other = is_true(statement[1], trues), is_true(statement[2], trues)
    return {"both": one and other, "one": one or other, "then": (not one) or other}[kind]


def small_statements(words):
    """All statements of at most three parts of these words."""
    simple = [LOW] + [("letter", word) for word in words]
    return simple + [(kind, one, other) for kind in PAIRED for one in simple for other in simple]


def random_question(chance, words, total=24):
    """Wishes and a goal of at most so many parts in all, of these words."""
    goal = few_words(chance, chance.choice([many for many in (1, 1, 3, 5, 9, 15, 23) if many <= total]), words)
    left = total - counted(goal)[0]
    wishes = []
    while left > 0 and chance.random() < 0.85:
        wish = few_words(chance, chance.choice([many for many in (1, 3, 3, 5, 7, 11, 19) if many <= left]), words)
        wishes.append(wish)
        left -= counted(wish)[0]
    return wishes, goal


def few_words(chance, parts, words):
    """A statement of just this odd number of parts, of these words."""
    if parts == 1:
        return LOW if chance.random() < 0.12 else ("letter", chance.choice(words))
    first = chance.randrange(1, parts - 1, 2)
    kind = chance.choice(("both", "one", "then", "then"))
    return (kind, few_words(chance, first, words), few_words(chance, parts - 1 - first, words))


def lists_in(thing):
    """All lists that stand in a thing, itself too."""
    found = [thing] if isinstance(thing, list) else []
    if isinstance(thing, (list, tuple)):
        for inner in thing:
            found.extend(lists_in(inner))
    return found


def own_lists(*things):
    """Whether no list stands in these things twice."""
    found = [id(one) for thing in things for one in lists_in(thing)]
    return len(found) == len(set(found))


def in_order(some):
    """The statements sorted as Python sorts tuples, each once."""
    return sorted(set(some))


FREE_RULES = ("wish", "low", "both", "first", "second", "then")
RULES = FREE_RULES + ("parts", "cases", "known", "curried", "either", "idle", "chain", "use")


def told_needs(rule, wishes, goal, on):
    """The needs as the words of the document tell them, or None where the rule can't stand so."""
    if rule not in RULES or (on is None) != (rule in FREE_RULES) or (on is not None and on not in wishes):
        return None
    if rule in ("wish", "low"):
        return [] if (goal if rule == "wish" else LOW) in wishes else None
    if on is None:
        kind = {"both": "both", "first": "one", "second": "one", "then": "then"}[rule]
        if goal[0] != kind:
            return None
        same = in_order(wishes)
        return {"both": [(same, goal[1]), (list(same), goal[2])], "first": [(same, goal[1])],
                "second": [(same, goal[2])], "then": [(in_order(wishes + [goal[1]]), goal[2])]}[rule]

    def with_these(*some):
        return in_order([wish for wish in wishes if wish != on] + list(some))

    if rule in ("parts", "cases"):
        if on[0] != {"parts": "both", "cases": "one"}[rule]:
            return None
        if rule == "parts":
            return [(with_these(on[1], on[2]), goal)]
        return [(with_these(on[1]), goal), (with_these(on[2]), goal)]
    if on[0] != "then":
        return None
    first, last = on[1], on[2]
    if rule == "known":
        return [(with_these(last), goal)] if first in wishes else None
    if rule == "use":
        return [(in_order(wishes), first), (in_order(wishes + [last]), goal)]
    if first[0] != {"curried": "both", "either": "one", "idle": "low", "chain": "then"}[rule]:
        return None
    if rule == "idle":
        return [(with_these(), goal)]
    one, other = first[1], first[2]
    return {"curried": [(with_these(("then", one, ("then", other, last))), goal)],
            "either": [(with_these(("then", one, last), ("then", other, last)), goal)],
            "chain": [(with_these(("then", other, last)), first), (with_these(last), goal)]}[rule]


def first_bad_line(lines):
    """The number of the first bad line as the words of the document tell it; None where all are good ones."""
    for number, (rule, wishes, goal, on, leans) in enumerate(lines):
        if wishes != in_order(wishes):
            return number
        needed = told_needs(rule, wishes, goal, on)
        if needed is None or len(leans) != len(needed) or any(not 0 <= lean < number for lean in leans):
            return number
        for lean, (needed_wishes, needed_goal) in zip(leans, needed):
            if lines[lean][2] != needed_goal or not set(lines[lean][1]) <= set(needed_wishes) | set(wishes):
                return number
    return None if lines else 0


def told_kind(term, given):
    """The kind as the words of the document tell it, or None where there is none."""
    form = term[0]
    if form == "at":
        return given[term[1]] if 0 <= term[1] < len(given) else None
    if form == "fun":
        kind = told_kind(term[2], [term[1]] + given)
        return kind and ("then", term[1], kind)
    if form == "cases":
        kind = told_kind(term[1], given)
        if kind is None or kind[0] != "one":
            return None
        one, other = told_kind(term[2], [kind[1]] + given), told_kind(term[3], [kind[2]] + given)
        return one if one == other else None
    first = told_kind(term[1], given)
    if first is None:
        return None
    if form in ("left", "right"):
        return first[1 if form == "left" else 2] if first[0] == "both" else None
    if form in ("first", "second"):
        return ("one", first, term[2]) if form == "first" else ("one", term[2], first)
    if form == "off":
        return term[2] if first == LOW else None
    second = told_kind(term[2], given)
    if second is None:
        return None
    if form == "pair":
        return ("both", first, second)
    return first[2] if first[0] == "then" and first[1] == second else None


def inner_terms(term):
    """The terms within this one, at once, in their order."""
    return [term[place] for place in {"at": (), "pair": (1, 2), "left": (1,), "right": (1,), "first": (1,),
                                      "second": (1,), "cases": (1, 2, 3), "fun": (2,), "use": (1, 2),
                                      "off": (1,)}[term[0]]]


def counted_term(term):
    """Its parts and its depth, by a call within a call."""
    inner = [counted_term(one) for one in inner_terms(term)]
    return 1 + sum(parts for parts, deep in inner), 1 + max((deep for parts, deep in inner), default=0)


def random_term(chance, given, size, words="ab"):
    """A term of some size that has a kind by what is given (some statement), and this kind."""
    if size <= 1:
        k = chance.randrange(len(given))
        return ("at", k), given[k]

    def some(more=(), share=2):
        return random_term(chance, list(more) + given, (size - 1) // share, words)

    other = few_words(chance, chance.choice((1, 1, 3)), words)
    form = chance.choice(("pair", "side", "side", "one", "cases", "cases", "fun", "use", "use", "off", "known"))
    if form == "pair":
        (one, one_kind), (two, two_kind) = some(), some()
        return ("pair", one, two), ("both", one_kind, two_kind)
    if form == "side":
        term, kind = some(share=1)
        if kind[0] != "both":
            two, two_kind = some(share=8)
            term, kind = ("pair", term, two), ("both", kind, two_kind)
        return (("left", term), kind[1]) if chance.random() < 0.5 else (("right", term), kind[2])
    if form == "one":
        term, kind = some(share=1)
        if chance.random() < 0.5:
            return ("first", term, other), ("one", kind, other)
        return ("second", term, other), ("one", other, kind)
    if form == "cases":
        term, kind = some(share=3)
        if kind[0] != "one":
            term, kind = (("first", term, other), ("one", kind, other)) if chance.random() < 0.5 else (
                ("second", term, other), ("one", other, kind))
        (one, one_kind), (two, two_kind) = some([kind[1]], 3), some([kind[2]], 3)
        if one_kind == two_kind:
            return ("cases", term, one, two), one_kind
        return (("cases", term, ("first", one, two_kind), ("second", two, one_kind)), ("one", one_kind, two_kind))
    if form == "fun":
        term, kind = some([other], 1)
        return ("fun", other, term), ("then", other, kind)
    if form == "use":
        two, two_kind = some()
        term, kind = some([two_kind])
        return ("use", ("fun", two_kind, term), two), kind
    if form == "off" and LOW in given:
        return ("off", ("at", given.index(LOW)), other), other
    ifs = [k for k, one in enumerate(given) if one[0] == "then"]
    if ifs:
        k = chance.choice(ifs)
        if given[k][1] in given:
            return ("use", ("at", k), ("at", given.index(given[k][1]))), given[k][2]
    return some(share=1)


def with_names(term, names, fresh):
    """The term with names in the place of numbers, each "fun" and each of the "cases" bearing its own name."""
    form = term[0]
    if form == "at":
        return ("at", names[term[1]])
    if form == "fun":
        fresh.append(f"own{len(fresh)}")
        own = fresh[-1]
        return ("fun", term[1], own, with_names(term[2], [own] + names, fresh))
    if form == "cases":
        fresh.extend([f"own{len(fresh)}", f"own{len(fresh) + 1}"])
        one, two = fresh[-2:]
        return ("cases", with_names(term[1], names, fresh), one, with_names(term[2], [one] + names, fresh),
                two, with_names(term[3], [two] + names, fresh))
    inner = [with_names(one, names, fresh) for one in inner_terms(term)]
    return (form, *inner, *term[1 + len(inner):])


def with_numbers(named, names, name, other):
    """The term of what with_names told, with what is named other in the place of the name."""
    form = named[0]
    if form == "at":
        return with_numbers(other, names, None, None) if named[1] == name else ("at", names.index(named[1]))
    if form == "fun":
        return ("fun", named[1], with_numbers(named[3], [named[2]] + names, name, other))
    if form == "cases":
        return ("cases", with_numbers(named[1], names, name, other),
                with_numbers(named[3], [named[2]] + names, name, other),
                with_numbers(named[5], [named[4]] + names, name, other))
    return (form, *[with_numbers(one, names, name, other) if one[0] in TERM_FORMS else one for one in named[1:]])


TERM_FORMS = ("at", "pair", "left", "right", "first", "second", "cases", "fun", "use", "off")


def told_put(term, other):
    """t [a], told by names: no name is there twice, so that what is put in stays as it is."""
    given = [f"given{number}" for number in range(200)]
    fresh = []
    named = with_names(term, ["front"] + given, fresh)
    return with_numbers(named, given, "front", with_names(other, given, fresh))


def told_turns(term):
    """What the term itself turns to, as the words of the document tell it, or None."""
    if term[0] in ("left", "right") and term[1][0] == "pair":
        return term[1][1 if term[0] == "left" else 2]
    if term[0] == "use" and term[1][0] == "fun":
        return told_put(term[1][2], term[2])
    if term[0] == "cases" and term[1][0] in ("first", "second"):
        return told_put(term[2 if term[1][0] == "first" else 3], term[1][1])
    return None


def told_turnings(term):
    """Whole terms: what comes of the term by each of its turnings, in their order."""
    told = [] if told_turns(term) is None else [told_turns(term)]
    for place, inner in enumerate(term):
        if place > 0 and isinstance(inner, tuple) and any(inner is one for one in inner_terms(term)):
            told.extend(term[:place] + (turned,) + term[place + 1:] for turned in told_turnings(inner))
    return told


def come_to(lines, number):
    """How many lines are come to from this one, as often as it is, and how many stand on the longest way."""
    inner = [come_to(lines, lean) for lean in lines[number][4]]
    return 1 + sum(many for many, way in inner), 1 + max((way for many, way in inner), default=0)


def random_lines(chance, many, rules=RULES, near=8, words="ab"):
    """Good lines, so many, by these rules, each leaning on some of those near; mostly on ones with few wishes."""
    lines = [random_line(chance, [], "wish", near, words)]
    while len(lines) < many:
        lines.append(random_line(chance, lines, chance.choice(rules), near, words))
    return lines


def random_line(chance, lines, rule, near, words):
    """A good line by this rule that may stand behind these."""
    free = [few_words(chance, chance.choice((1, 1, 3)), words) for number in range(3)]
    if rule in ("wish", "low"):
        goal = free[0]
        return (rule, in_order(free[:chance.randrange(1, 4)] + ([LOW] if rule == "low" else [])), goal, None, [])
    fits = [number for number in range(len(lines)) if rule != "chain" or lines[number][2][0] == "then"]
    if not fits:
        return random_line(chance, lines, "wish", near, words)
    one, two = chance.choice(fits[-near:]), chance.randrange(max(0, len(lines) - near), len(lines))
    wishes, goal = lines[one][1:3]
    others, last = lines[two][1:3]
    first, second, third = [chance.choice(wishes + free[:1]) for number in range(3)]
    of_two = chance.choice(others + free[:1])

    def line(on, new, same, leans, end, some=wishes):
        kept = [wish for wish in some if wish not in new or chance.random() < 0.2]
        put = chance.sample(free, 1) if chance.random() < 0.2 else []
        return (rule, in_order(kept + list(same) + put + ([on] if on else [])), end, on, leans)

    if rule == "both":
        return line(None, [], others, [one, two], ("both", goal, last))
    if rule in ("first", "second"):
        return line(None, [], [], [one], ("one", goal, free[1]) if rule == "first" else ("one", free[1], goal))
    if rule == "then":
        return line(None, [first], [], [one], ("then", first, goal))
    if rule == "parts":
        return line(("both", first, second), [first, second], [], [one], goal)
    if rule == "cases":
        two = chance.choice([number for number in range(len(lines)) if lines[number][2] == goal])
        other = chance.choice(lines[two][1] + free[:1])
        on = ("one", first, other)
        return line(on, [], [wish for wish in lines[two][1] if wish != other], [one, two], goal,
                    [wish for wish in wishes if wish != first])
    if rule == "known":
        return line(("then", second, first), [first], [second], [one], goal)
    if rule == "curried":
        ifs = [wish for wish in wishes if wish[0] == "then" and wish[2][0] == "then"]
        stated = chance.choice(ifs or [("then", first, ("then", second, third))])
        on = ("then", ("both", stated[1], stated[2][1]), stated[2][2])
        return line(on, [stated], [], [one], goal)
    if rule == "either":
        ifs = [wish for wish in wishes if wish[0] == "then"]
        stated = chance.choice(ifs or [("then", first, second)])
        on = ("then", ("one", stated[1], third), stated[2])
        return line(on, [stated, ("then", third, stated[2])], [], [one], goal)
    if rule == "idle":
        return line(("then", LOW, first), [], [], [one], goal)
    kept = [wish for wish in others if wish != of_two]
    if rule == "use":
        return line(("then", goal, of_two), [], kept, [one, two], last)
    stated = ("then", goal[2], of_two)
    return line(("then", goal, of_two), [stated], kept, [one, two], last)
