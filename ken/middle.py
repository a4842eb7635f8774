"""Middle statements: what stands between left wishes and a goal that is shown from them and right ones.

Lines for all wishes are gone along. There each wish is left or right, and the goal is on the right. Of each line
are found its two halves, a tuple (middle, one, other): one is the number of a line that shows the middle from left
wishes, other that of one which shows the goal from right wishes and the middle. Where the right wishes alone show
the goal, middle and one are None. All lines of the halves are written into one list, each behind those it leans on;
they may have fewer wishes than there are on their side.
"""

from ken.decide import decide
from ken.errors import NotShown
from ken.lines import come_to
from ken.statements import LOW, compared, negated, once
from ken.wishes import among, more, place

LEFT = "l"
RIGHT = "r"
OTHER_SIDE = {"l": "r", "r": "l"}


class Spot:
    """A line that is come to, with its wishes by their sides, and the list into which lines are written."""

    def __init__(self, written, line, sides):
        rule, wishes, goal, on, leans = line
        self.written = written
        self.rule = rule
        self.goal = goal
        self.on = on
        self.left = [wish for wish, side in zip(wishes, sides) if side == LEFT]
        self.right = [wish for wish, side in zip(wishes, sides) if side == RIGHT]


def write(spot, rule, wishes, goal, on, leans):
    """Write a line, and tell its number."""
    spot.written.append((rule, wishes, goal, on, leans))
    return len(spot.written) - 1


def wished(spot, statement):
    """A line that shows a statement from itself."""
    return write(spot, "wish", [statement], statement, None, [])


def distinct(middles):
    """The middles without those that are None, each once."""
    return once([each for each in middles if each is not None])


def of_wish(spot, halves):
    """The goal is a wish: left of the middle or right of it."""
    number = wished(spot, spot.goal)
    if among(spot.left, spot.goal):
        return (spot.goal, number, number)
    return (None, None, number)


def of_low(spot, halves):
    """What can't be is a wish."""
    number = write(spot, "low", [LOW], spot.goal, None, [])
    if among(spot.left, LOW):
        return (LOW, wished(spot, LOW), number)
    return (None, None, number)


def of_goal(spot, halves):
    """A rule of the goal's with one need: the goal stands on the right."""
    found, one, other = halves[0]
    wishes = more(spot.right, distinct([found]))
    return (found, one, write(spot, spot.rule, wishes, spot.goal, None, [other]))


def of_side(spot, halves):
    """A rule of a wish with one need, all of it on this wish's side."""
    found, one, other = halves[0]
    if among(spot.right, spot.on):
        wishes = more(spot.right, distinct([found]))
        return (found, one, write(spot, spot.rule, wishes, spot.goal, spot.on, [other]))
    if found is None:
        return halves[0]
    return (found, write(spot, spot.rule, spot.left, found, spot.on, [one]), other)


def joined(spot, firsts, leans):
    """Both of two middles, told with what shows them on the left; the right leans on the lines that take them."""
    shown_by = [half for half in firsts if half[0] is not None]
    middles = distinct([half[0] for half in firsts])
    number = write(spot, spot.rule, more(spot.right, middles), spot.goal, spot.on, leans)
    if not middles:
        return (None, None, number)
    if len(middles) == 1:
        return (shown_by[0][0], shown_by[0][1], number)
    found = ("both", firsts[0][0], firsts[1][0])
    one = write(spot, "both", spot.left, found, None, [firsts[0][1], firsts[1][1]])
    return (found, one, write(spot, "parts", more(spot.right, [found]), spot.goal, found, [number]))


def of_two(spot, halves):
    """A rule with two needs, of the goal or of a right wish."""
    return joined(spot, [half[:2] for half in halves], [half[2] for half in halves])


def of_cases(spot, halves):
    """Cases of a wish on its side; of a left one, one of the two middles."""
    if among(spot.right, spot.on):
        return of_two(spot, halves)
    for half in halves:
        if half[0] is None:
            return half
    first, second = halves
    if compared(first[0], second[0]) == 0:
        return (first[0], write(spot, "cases", spot.left, first[0], spot.on, [first[1], second[1]]), first[2])
    found = ("one", first[0], second[0])
    by_first = write(spot, "first", spot.written[first[1]][1], found, None, [first[1]])
    by_second = write(spot, "second", spot.written[second[1]][1], found, None, [second[1]])
    one = write(spot, "cases", spot.left, found, spot.on, [by_first, by_second])
    return (found, one, write(spot, "cases", more(spot.right, [found]), spot.goal, found, [first[2], second[2]]))


def of_known(spot, halves):
    """On and its A may stand on two sides: then the middle tells of A, or asks for it."""
    found, one, other = halves[0]
    asked = spot.on[1]
    if among(spot.left, asked) == among(spot.left, spot.on):
        return of_side(spot, halves)
    if among(spot.left, asked):
        return joined(spot, [(asked, wished(spot, asked)), (found, one)], [other])
    if found is None:
        return halves[0]
    told = ("then", asked, found)
    inner = write(spot, "known", more(spot.left, [asked]), found, spot.on, [one])
    one = write(spot, "then", spot.left, told, None, [inner])
    return (told, one, write(spot, "known", more(spot.right, [told]), spot.goal, told, [other]))


def of_chain(spot, halves):
    """Of a left wish, the first need was asked with the sides changed: its middle goes from the right to the left."""
    if among(spot.right, spot.on):
        return of_two(spot, halves)
    back, back_one, back_other = halves[0]
    found, one, other = halves[1]
    if found is None:
        return halves[1]
    number = write(spot, "chain", more(spot.left, distinct([back])), found, spot.on, [back_other, one])
    if back is None:
        return (found, number, other)
    told = ("then", back, found)
    one = write(spot, "then", spot.left, told, None, [number])
    return (told, one, write(spot, "use", more(spot.right, [told]), spot.goal, told, [back_one, other]))


DEEDS = {
    "wish": of_wish, "low": of_low, "both": of_two, "first": of_goal, "second": of_goal, "then": of_goal,
    "parts": of_side, "cases": of_cases, "known": of_known, "curried": of_side, "either": of_side,
    "idle": of_side, "chain": of_chain,
}


def needed(lines, number, sides):
    """The lines that this one leans on, each with sides for its wishes: what is new is on the side of on."""
    rule, wishes, goal, on, leans = lines[number]
    new_side = RIGHT if on is None else sides[place(wishes, on)]
    told = []
    for lean in leans:
        here = [sides[place(wishes, wish)] if among(wishes, wish) else new_side for wish in lines[lean][1]]
        if rule == "chain" and new_side == LEFT and not told:
            here = [OTHER_SIDE[side] for side in here]
        told.append((lean, "".join(here)))
    return told


def go_along(lines, sides):
    """The written lines, and the halves of the last line with these sides for its wishes."""
    written = []
    found = {}
    start = (len(lines) - 1, sides)
    waiting = [start]
    while waiting:
        asked = waiting[-1]
        leaned = needed(lines, asked[0], asked[1])
        missing = [one for one in leaned if one not in found]
        waiting.extend(missing[::-1])
        if not missing:
            waiting.pop()
            if asked not in found:
                deed = DEEDS[lines[asked[0]][0]]
                found[asked] = deed(Spot(written, lines[asked[0]], asked[1]), [found[one] for one in leaned])
    return written, found[start]


def taken(written, last, wishes):
    """The written lines that are come to from this one, which gets these wishes, its own ones among them."""
    numbers = {number: place_now for place_now, number in enumerate(come_to(written, last))}
    told = []
    for number in numbers:
        rule, own_wishes, goal, on, leans = written[number]
        told.append((rule, list(wishes if number == last else own_wishes), goal, on, [numbers[lean] for lean in leans]))
    return told


def middle(left, right, goal):
    """A tuple (M, ones, others): lines from left to M, and from right and M to the goal; or NotShown."""
    told, lines = decide(left + right, goal)
    if told == "worlds":
        raise NotShown("the goal is not shown from these wishes")
    on_right = once(right)
    written, (found, one, other) = go_along(
        lines, "".join([RIGHT if among(on_right, wish) else LEFT for wish in lines[-1][1]]))
    if found is None:
        # Nothing is asked of the left: what holds anyway will do.
        found = negated(LOW)
        written.append(("wish", [LOW], LOW, None, []))
        one = len(written)
        written.append(("then", [], found, None, [one - 1]))
    return (found, taken(written, one, once(left)), taken(written, other, once(right + [found])))
