"""Weights of statements, by which every need of a way is less than what it is needed for."""

from ken.statements import folded, once


def simple_weight(piece):
    """The weight of a letter, and of what can't be."""
    return 2


def pair_weight(kind, first, second):
    """The weight of a statement of two others, by their weights."""
    if kind == "both":
        return first * second + first + second
    if kind == "one":
        return first + second + 1
    return first * (second + 1)


def weight(statement):
    """The weight of the statement."""
    return folded(statement, simple_weight, pair_weight)


def measure(wishes, goal):
    """The weights of the wishes, each taken once, and of the goal, together."""
    return sum([weight(wish) for wish in once(wishes)]) + weight(goal)
