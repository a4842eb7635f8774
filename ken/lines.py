"""Lines: whether each of them is a good one, and which of them lean on which."""

from ken.errors import NoLine, NoRule
from ken.rules import needs
from ken.statements import compared
from ken.wishes import among, are_wishes


def needed_by(line):
    """The needs of the line, or None where its rule can't stand so."""
    rule, wishes, goal, on, leans = line
    try:
        return needs(rule, wishes, goal, on)
    except NoRule:
        return None


def serves(leaned, wishes, need):
    """Whether the line that is leaned on tells what a line of these wishes needs."""
    needed_wishes, needed_goal = need
    if compared(leaned[2], needed_goal) != 0:
        return False
    return all([among(needed_wishes, wish) or among(wishes, wish) for wish in leaned[1]])


def is_good(lines, number):
    """Whether this line is a good one; those ahead of it are."""
    rule, wishes, goal, on, leans = lines[number]
    if not are_wishes(wishes):
        return False
    needed = needed_by(lines[number])
    if needed is None or len(needed) != len(leans):
        return False
    if not all([0 <= lean < number for lean in leans]):
        return False
    return all([serves(lines[lean], wishes, need) for lean, need in zip(leans, needed)])


def check(lines):
    """True for good lines; others are refused with NoLine."""
    if not lines:
        raise NoLine(0)
    for number in range(len(lines)):
        if not is_good(lines, number):
            raise NoLine(number)
    return True


def come_to(lines, last):
    """The numbers of the lines that are come to from this one by what they lean on, itself too, rising."""
    found = {last: True}
    for number in range(last, -1, -1):
        if number in found:
            for lean in lines[number][4]:
                found[lean] = True
    return sorted(found)
