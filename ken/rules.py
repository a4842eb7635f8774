"""The rules of lines: what a line by each of them needs.

Each rule has a function that is handed the wishes, the goal and on. It tells the needs, a list of tuples
(wishes, goal), or None where the rule can't stand so. That on is None, or one of the wishes, was seen to ahead.
"""

from ken.errors import NoRule
from ken.statements import LOW
from ken.wishes import among, more, without


def by_wish(wishes, goal, on):
    """The goal is a wish."""
    return [] if among(wishes, goal) else None


def by_low(wishes, goal, on):
    """What can't be is a wish."""
    return [] if among(wishes, LOW) else None


def by_both(wishes, goal, on):
    """Each of the two is shown."""
    if goal[0] != "both":
        return None
    return [(list(wishes), goal[1]), (list(wishes), goal[2])]


def by_first(wishes, goal, on):
    """The first one of the two is shown."""
    return [(list(wishes), goal[1])] if goal[0] == "one" else None


def by_second(wishes, goal, on):
    """The second one of the two is shown."""
    return [(list(wishes), goal[2])] if goal[0] == "one" else None


def by_then(wishes, goal, on):
    """With A as a wish, B is shown."""
    return [(more(wishes, [goal[1]]), goal[2])] if goal[0] == "then" else None


def by_parts(wishes, goal, on):
    """A wish "both" becomes its two ones."""
    if on[0] != "both":
        return None
    return [(more(without(wishes, on), [on[1], on[2]]), goal)]


def by_cases(wishes, goal, on):
    """The goal is shown by each one of the two."""
    if on[0] != "one":
        return None
    others = without(wishes, on)
    return [(more(others, [on[1]]), goal), (more(others, [on[2]]), goal)]


def by_known(wishes, goal, on):
    """A is a wish, so B may be."""
    if on[0] != "then" or not among(wishes, on[1]):
        return None
    return [(more(without(wishes, on), [on[2]]), goal)]


def is_if(on, kind):
    """Whether this is an "if then" whose A is of this kind."""
    return on[0] == "then" and on[1][0] == kind


def by_curried(wishes, goal, on):
    """If A and B then C: if A then, if B then C."""
    if not is_if(on, "both"):
        return None
    one, other = on[1][1:]
    return [(more(without(wishes, on), [("then", one, ("then", other, on[2]))]), goal)]


def by_either(wishes, goal, on):
    """If one of A and B then C: if A then C, and if B then C."""
    if not is_if(on, "one"):
        return None
    one, other = on[1][1:]
    return [(more(without(wishes, on), [("then", one, on[2]), ("then", other, on[2])]), goal)]


def by_idle(wishes, goal, on):
    """If what can't be then C: this tells nothing."""
    return [(without(wishes, on), goal)] if is_if(on, "low") else None


def by_chain(wishes, goal, on):
    """If (if A then B) then C: the inner "if" is shown with less, and then C may be a wish."""
    if not is_if(on, "then"):
        return None
    others = without(wishes, on)
    return [(more(others, [("then", on[1][2], on[2])]), on[1]), (more(others, [on[2]]), goal)]


def by_use(wishes, goal, on):
    """A is shown, so B may be a wish, too."""
    if on[0] != "then":
        return None
    return [(list(wishes), on[1]), (more(wishes, [on[2]]), goal)]


# In the order of the document. The first six stand without on.
RULES = {
    "wish": by_wish, "low": by_low, "both": by_both, "first": by_first, "second": by_second, "then": by_then,
    "parts": by_parts, "cases": by_cases, "known": by_known, "curried": by_curried, "either": by_either,
    "idle": by_idle, "chain": by_chain, "use": by_use,
}
WITHOUT_ON = ("wish", "low", "both", "first", "second", "then")


def has_on(rule, wishes, on):
    """Whether on is what the rule asks for: None, or one of the wishes."""
    if rule in WITHOUT_ON:
        return on is None
    return on is not None and among(wishes, on)


def needs(rule, wishes, goal, on):
    """What a line by the rule needs, a list of tuples (wishes, goal); refused with NoRule where it can't stand."""
    if rule not in RULES:
        raise NoRule(f"{rule!r} is no rule")
    if not has_on(rule, wishes, on):
        raise NoRule(f"the rule {rule} can't stand with this on")
    deed = RULES[rule]
    needed = deed(wishes, goal, on)
    if needed is None:
        raise NoRule(f"the rule {rule} can't stand here")
    return needed


def uses(rule, wishes, goal):
    """All uses of one rule, tuples (rule, on, needs), in the order of the wishes."""
    deed = RULES[rule]
    tried = [(on, deed(wishes, goal, on)) for on in ([None] if rule in WITHOUT_ON else wishes)]
    return [(rule, on, needed) for on, needed in tried if needed is not None]


def ways(wishes, goal):
    """All uses of the rules but `use`, in the order of the rules."""
    return [way for rule in RULES if rule != "use" for way in uses(rule, wishes, goal)]
