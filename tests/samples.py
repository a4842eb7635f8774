"""Statements to test with, and what is told of them in another way than the package tells it."""

import random

LOW = ("low",)
A = ("letter", "a")
B = ("letter", "b")
C = ("letter", "c")
PAIRED = ("both", "one", "then")
WORDS = ("a", "b", "c", "ab", "abc", "abcdefgh", "z", "zzzzzzzz", "low", "one", "both", "then", "letter")


def random_statement(chance, parts, deep=40):
    """A statement of just this odd number of parts, at most so deep, where both can be had together."""
    if parts == 1:
        return LOW if chance.random() < 0.2 else ("letter", chance.choice(WORDS))
    most = 2 ** (deep - 1) - 1
    least = max(1, parts - 1 - most)
    first = chance.randrange(least, min(parts - 2, most) + 1, 2)
    kind = chance.choice(PAIRED)
    second = parts - 1 - first
    if kind == "then" and second == 1 and chance.random() < 0.5:
        return (kind, random_statement(chance, first, deep - 1), LOW)
    return (kind, random_statement(chance, first, deep - 1), random_statement(chance, second, deep - 1))


def random_statements(seed, many, most_parts=299):
    """Some statements, small and great ones, the same ones for the same seed."""
    chance = random.Random(seed)
    return [random_statement(chance, chance.randrange(1, most_parts + 1, 2)) for number in range(many)]


def ladder(deep, kind, on_left=True):
    """A statement with one long arm: so deep, and of 2 * deep - 1 parts."""
    statement = LOW
    for number in range(deep - 1):
        rung = ("letter", "abcdefgh"[number % 8])
        statement = (kind, statement, rung) if on_left else (kind, rung, statement)
    return statement


def full(deep, kind, leaf):
    """A statement with two equal arms at each place: so deep, and of 2 ** deep - 1 parts."""
    statement = leaf
    for number in range(deep - 1):
        statement = (kind, statement, statement)
    return statement


def greatest():
    """A statement that is 40 deep and has 299 parts, the most that there can be up to 300."""
    arm = full(7, "both", A)
    for number in range(32):
        arm = ("then", arm, LOW)
    other_arm = random_statement(random.Random(7), 107, 39)
    return ("one", arm, other_arm)


def counted(statement):
    """Its parts, its depth, its words, by a call within a call."""
    if statement[0] == "low":
        return 1, 1, set()
    if statement[0] == "letter":
        return 1, 1, {statement[1]}
    parts_a, deep_a, words_a = counted(statement[1])
    parts_b, deep_b, words_b = counted(statement[2])
    return 1 + parts_a + parts_b, 1 + max(deep_a, deep_b), words_a | words_b
