"""Point 17, point 3 (b), and what point 2 says of lists."""

import copy
import random
import unittest

from ken import errors
from ken.decide import decide
from ken.errors import KenError, NoLine
from ken.lines import check
from ken.rules import needs
from ken.statements import negated
from ken.texts import read
from ken.worlds import known
from samples import (A, B, C, LOW, RULES, first_bad_line, greatest, in_order, random_question, random_statements,
                     random_worlds)


def some(texts):
    """The statements of these texts, sorted, each once."""
    return in_order([read(text) for text in texts.split("; ")] if texts else [])


def line(rule, wishes, goal, on, *leans):
    return (rule, some(wishes), read(goal), None if on is None else read(on), list(leans))


# Good lines, with just the needed wishes; by each of the rules.
GOOD = [
    [line("wish", "a", "a", None)],
    [line("wish", "a; b; (a & b)", "(a & b)", None)],
    [line("low", "0", "a", None)],
    [line("low", "a; 0", "0", None)],
    [line("wish", "a; b", "a", None), line("wish", "a; b", "b", None), line("both", "a; b", "(a & b)", None, 0, 1)],
    [line("wish", "a", "a", None), line("both", "a", "(a & a)", None, 0, 0)],
    [line("wish", "a", "a", None), line("first", "a", "(a | b)", None, 0)],
    [line("wish", "a", "a", None), line("second", "a", "(b | a)", None, 0)],
    [line("wish", "a", "a", None), line("then", "", "(a > a)", None, 0)],
    [line("wish", "a; b", "a", None), line("then", "a", "(b > a)", None, 0),
     line("then", "", "(a > (b > a))", None, 1)],
    [line("wish", "a; b", "b", None), line("parts", "(a & b)", "b", "(a & b)", 0)],
    [line("wish", "a", "a", None), line("cases", "(a | a)", "a", "(a | a)", 0, 0)],
    [line("wish", "a", "a", None), line("second", "a", "(b | a)", None, 0), line("wish", "b", "b", None),
     line("first", "b", "(b | a)", None, 2), line("cases", "(a | b)", "(b | a)", "(a | b)", 1, 3)],
    [line("wish", "a; b", "b", None), line("known", "a; (a > b)", "b", "(a > b)", 0)],
    [line("wish", "a; b; c", "c", None), line("known", "a; b; (b > c)", "c", "(b > c)", 0),
     line("known", "a; b; (a > (b > c))", "c", "(a > (b > c))", 1),
     line("curried", "a; b; ((a & b) > c)", "c", "((a & b) > c)", 2)],
    [line("wish", "a; c; (b > c)", "c", None), line("known", "a; (a > c); (b > c)", "c", "(a > c)", 0),
     line("either", "a; ((a | b) > c)", "c", "((a | b) > c)", 1)],
    [line("wish", "a", "a", None), line("idle", "a; (0 > b)", "a", "(0 > b)", 0)],
    [line("wish", "a; (a > c)", "a", None), line("then", "(a > c)", "(a > a)", None, 0), line("wish", "c", "c", None),
     line("chain", "((a > a) > c)", "c", "((a > a) > c)", 1, 2)],
    [line("wish", "a; (a > b)", "a", None), line("wish", "a; b; (a > b)", "b", None),
     line("use", "a; (a > b)", "b", "(a > b)", 0, 1)],
]

# The same, with fewer wishes than are needed in the lines that are leaned on.
FEWER = [
    [line("wish", "a", "a", None), line("wish", "b", "b", None), line("both", "a; b", "(a & b)", None, 0, 1)],
    [line("wish", "a", "a", None), line("wish", "b", "b", None), line("both", "a; b; c; ~d", "(a & b)", None, 0, 1)],
    [line("wish", "a", "a", None), line("first", "a; c", "(a | b)", None, 0)],
    [line("wish", "a", "a", None), line("second", "a; (c > d)", "(b | a)", None, 0)],
    [line("wish", "a", "a", None), line("then", "a", "(b > a)", None, 0)],
    [line("wish", "b", "b", None), line("parts", "(a & b); c", "b", "(a & b)", 0)],
    [line("wish", "a", "a", None), line("cases", "(b | c); a", "a", "(b | c)", 0, 0)],
    [line("wish", "b", "b", None), line("known", "a; (a > b)", "b", "(a > b)", 0)],
    [line("wish", "c", "c", None), line("curried", "((a & b) > c); c", "c", "((a & b) > c)", 0)],
    [line("wish", "d", "d", None), line("either", "((a | b) > c); d", "d", "((a | b) > c)", 0)],
    [line("wish", "a", "a", None), line("idle", "a; b; (0 > b)", "a", "(0 > b)", 0)],
    [line("wish", "a", "a", None), line("then", "", "(a > a)", None, 0), line("wish", "c", "c", None),
     line("chain", "b; ((a > a) > c)", "c", "((a > a) > c)", 1, 2)],
    [line("wish", "a", "a", None), line("wish", "b", "b", None), line("use", "a; (a > b)", "b", "(a > b)", 0, 1)],
    [line("wish", "a", "a", None), line("then", "", "(a > a)", None, 0),
     line("first", "b; c", "((a > a) | 0)", None, 1)],
]

# The same, with wishes of the line itself, which are not needed there.
OWN = [
    [line("wish", "a; b; (a & b)", "b", None), line("parts", "(a & b)", "b", "(a & b)", 0)],
    [line("wish", "(a & b)", "(a & b)", None), line("parts", "(a & b)", "(a & b)", "(a & b)", 0)],
    [line("wish", "(a | b)", "(a | b)", None), line("cases", "(a | b)", "(a | b)", "(a | b)", 0, 0)],
    [line("wish", "a; (a | a)", "a", None), line("wish", "a", "a", None),
     line("cases", "(a | a)", "a", "(a | a)", 0, 1)],
    [line("wish", "a; b; (a > b)", "b", None), line("known", "a; (a > b)", "b", "(a > b)", 0)],
    [line("wish", "((a & b) > c)", "((a & b) > c)", None),
     line("curried", "((a & b) > c)", "((a & b) > c)", "((a & b) > c)", 0)],
    [line("wish", "((a | b) > c)", "((a | b) > c)", None),
     line("either", "((a | b) > c)", "((a | b) > c)", "((a | b) > c)", 0)],
    [line("wish", "(0 > b)", "(0 > b)", None), line("idle", "(0 > b)", "(0 > b)", "(0 > b)", 0)],
    [line("wish", "a; ((a > a) > c)", "a", None), line("then", "((a > a) > c)", "(a > a)", None, 0),
     line("wish", "c; ((a > a) > c)", "c", None), line("chain", "((a > a) > c)", "c", "((a > a) > c)", 1, 2)],
]

# Lines, and the number of the first bad one.
BAD = [
    # none at all
    ([], 0),
    # another rule, a word that is no rule
    ([line("low", "a", "a", None)], 0), ([line("wish", "0", "a", None)], 0), ([line("both", "a", "a", None)], 0),
    ([line("", "a", "a", None)], 0), ([line("Wish", "a", "a", None)], 0), ([line("cut", "a", "a", None)], 0),
    ([line("wish", "a", "a", None), line("second", "a", "(a | b)", None, 0)], 1),
    ([line("wish", "a", "a", None), line("one", "a", "(a | b)", None, 0)], 1),
    ([line("wish", "a; b", "b", None), line("use", "a; (a > b)", "b", "(a > b)", 0)], 1),
    ([line("wish", "b", "b", None), line("known", "(a > b)", "b", "(a > b)", 0)], 1),
    # another goal
    ([line("wish", "a", "b", None)], 0), ([line("wish", "a", "0", None)], 0),
    ([line("wish", "a", "a", None), line("first", "a", "(b | a)", None, 0)], 1),
    ([line("wish", "a", "a", None), line("then", "", "(a > b)", None, 0)], 1),
    ([line("wish", "a", "a", None), line("then", "", "(b > a)", None, 0)], 1),
    ([line("wish", "a; b", "b", None), line("parts", "(a & b)", "a", "(a & b)", 0)], 1),
    ([line("wish", "a", "a", None), line("cases", "(a | b)", "a", "(a | b)", 0, 0)], 1),
    ([line("wish", "a; b", "b", None), line("known", "a; (a > b)", "a", "(a > b)", 0)], 1),
    ([line("wish", "a; (a > b)", "a", None), line("wish", "a; b", "b", None),
      line("use", "a; (a > b)", "a", "(a > b)", 0, 1)], 2),
    # a wish left out
    ([line("wish", "", "a", None)], 0), ([line("low", "a", "a", None)], 0),
    ([line("wish", "a", "a", None), line("first", "", "(a | b)", None, 0)], 1),
    ([line("wish", "a; b", "a", None), line("wish", "a; b", "b", None), line("both", "a", "(a & b)", None, 0, 1)], 2),
    ([line("wish", "a", "a", None), line("wish", "b", "b", None), line("both", "a", "(a & b)", None, 0, 1)], 2),
    ([line("wish", "b", "b", None), line("known", "a", "b", "(a > b)", 0)], 1),
    ([line("wish", "a; b", "b", None), line("parts", "", "b", "(a & b)", 0)], 1),
    ([line("wish", "a; c", "a", None), line("parts", "(a & b)", "a", "(a & b)", 0)], 1),
    # one more in a line that is leaned on
    ([line("wish", "a; c", "a", None), line("first", "a", "(a | b)", None, 0)], 1),
    ([line("wish", "a; b", "a", None), line("then", "", "(a > a)", None, 0)], 1),
    ([line("wish", "a", "a", None), line("wish", "a; b", "a", None), line("both", "a", "(a & a)", None, 0, 1)], 2),
    ([line("wish", "a; b", "a", None), line("cases", "(a | a)", "a", "(a | a)", 0, 0)], 1),
    ([line("wish", "a; b", "a", None), line("wish", "a", "a", None),
      line("cases", "(a | b)", "a", "(a | b)", 0, 1)], 2),
    ([line("wish", "b; c", "b", None), line("known", "a; (a > b)", "b", "(a > b)", 0)], 1),
    ([line("wish", "a; c", "c", None), line("chain", "((a > a) > c)", "c", "((a > a) > c)", 0, 0)], 1),
    # the wishes of another need of the line are none of this one
    ([line("wish", "a; b", "b", None), line("wish", "b", "b", None),
      line("cases", "(a | b)", "b", "(a | b)", 0, 1)], 2),
    ([line("wish", "a; c", "a", None), line("then", "c", "(a > a)", None, 0), line("wish", "c", "c", None),
      line("chain", "((a > a) > c)", "c", "((a > a) > c)", 1, 2)], 3),
    ([line("wish", "a; b", "a", None), line("wish", "b", "b", None),
      line("use", "a; (a > b)", "b", "(a > b)", 0, 1)], 2),
    # another on, or none, or one where none may be
    ([line("wish", "a", "a", "a")], 0), ([line("low", "0", "a", "0")], 0),
    ([line("wish", "a; b", "b", None), line("parts", "(a & b)", "b", None, 0)], 1),
    ([line("wish", "a; b", "b", None), line("parts", "(a & b); (a & c)", "b", "(a & c)", 0)], 1),
    ([line("wish", "b", "b", None), line("known", "a; (a > b); (b > a)", "b", "(b > a)", 0)], 1),
    ([line("wish", "a", "a", None), line("idle", "a; (0 > b)", "a", "(0 > a)", 0)], 1),
    ([line("wish", "a", "a", None), line("first", "a", "(a | b)", "a", 0)], 1),
    # leaning on itself, on a later one, on one below 0
    ([line("first", "a", "(a | b)", None, 0)], 0),
    ([line("wish", "a", "a", None), line("first", "a", "(a | b)", None, 1)], 1),
    ([line("first", "a", "(a | b)", None, 1), line("wish", "a", "a", None)], 0),
    ([line("wish", "a", "a", None), line("first", "a", "(a | b)", None, 2), line("wish", "a", "a", None)], 1),
    ([line("wish", "a", "a", None), line("first", "a", "(a | b)", None, 20000)], 1),
    ([line("wish", "a", "a", None), line("first", "a", "(a | b)", None, 10 ** 299)], 1),
    ([line("wish", "a", "a", None), line("first", "a", "(a | b)", None, -1)], 1),
    ([line("wish", "a", "a", None), line("first", "a", "(a | b)", None, -2)], 1),
    ([line("wish", "a", "a", None), line("both", "a", "(a & a)", None, 0, -2)], 1),
    ([line("wish", "(a | b)", "(a | b)", None), line("cases", "(a | b)", "(a | b)", "(a | b)", 1, 1)], 1),
    # on too few, on too many
    ([line("wish", "a", "a", None), line("first", "a", "(a | b)", None)], 1),
    ([line("wish", "a", "a", None), line("first", "a", "(a | b)", None, 0, 0)], 1),
    ([line("wish", "a", "a", None), line("both", "a", "(a & a)", None, 0)], 1),
    ([line("wish", "a", "a", None), line("both", "a", "(a & a)", None)], 1),
    ([line("wish", "a", "a", None), line("both", "a", "(a & a)", None, 0, 0, 0)], 1),
    ([line("wish", "a", "a", None), line("wish", "a", "a", None, 0)], 1),
    ([line("wish", "0", "0", None), line("low", "0", "a", None, 0)], 1),
    ([line("wish", "a", "a", None, 0)], 0),
    # in another order
    ([line("wish", "a; b", "a", None), line("wish", "a; b", "b", None),
      line("both", "a; b", "(a & b)", None, 1, 0)], 2),
    ([line("wish", "a; (a > c)", "a", None), line("then", "(a > c)", "(a > a)", None, 0), line("wish", "c", "c", None),
      line("chain", "((a > a) > c)", "c", "((a > a) > c)", 2, 1)], 3),
    ([line("wish", "a", "a", None), line("wish", "b", "b", None), line("use", "a; (a > b)", "b", "(a > b)", 1, 0)], 2),
    # wishes not sorted, one twice
    ([("wish", [B, A], A, None, [])], 0), ([("wish", [A, A], A, None, [])], 0), ([("low", [LOW, LOW], A, None, [])], 0),
    ([("wish", [A, B, A], A, None, [])], 0), ([("wish", [A, LOW, B], A, None, [])], 0),
    ([("wish", [LOW, ("both", A, B)], LOW, None, [])], 0),
    ([("wish", [A], A, None, []), ("first", [B, A], ("one", A, B), None, [0])], 1),
    ([("wish", [A], A, None, []), ("first", [A, A], ("one", A, B), None, [0])], 1),
    ([("wish", [B, A], A, None, []), ("first", [A, B], ("one", A, B), None, [0])], 0),
    ([("wish", [A], A, None, []), ("parts", [A, ("both", A, B)], A, ("both", A, B), [0])], 1),
    # two bad ones, the first one is told; a bad one behind good ones, and ahead of them
    ([line("wish", "a", "b", None), line("low", "a", "a", None)], 0),
    ([line("wish", "a", "a", None), line("low", "a", "b", None), line("wish", "", "c", None)], 1),
    ([line("wish", "a", "a", None), line("wish", "b", "a", None), line("first", "b", "(a | b)", None, 1)], 1),
    ([line("wish", "b", "a", None), line("wish", "a", "a", None), line("first", "a", "(a | b)", None, 1)], 0),
]


def by_what_cannot_be(rule, wishes, goal, on, extra):
    """A line by this rule, and ahead of it lines by `low`, with all needed wishes, fewer, or own ones, too."""
    wishes = in_order(wishes + [LOW])
    lines = []
    for needed_wishes, needed_goal in needs(rule, wishes, goal, on):
        these = {"just": needed_wishes, "fewer": [LOW], "own": in_order(needed_wishes + wishes)}[extra]
        lines.append(("low", list(these), needed_goal, None, []))
    return lines + [(rule, wishes, goal, on, list(range(len(lines))))]


STANDING = [
    ("wish", "a; b", "a", None), ("low", "a", "b", None), ("both", "c", "(a & b)", None),
    ("first", "c", "(a | b)", None),
    ("second", "c", "(a | b)", None), ("then", "c", "(a > b)", None), ("parts", "(a & b); c", "d", "(a & b)"),
    ("cases", "(a | b); c", "d", "(a | b)"), ("known", "a; (a > b)", "d", "(a > b)"),
    ("curried", "((a & b) > c); e", "d", "((a & b) > c)"), ("either", "((a | b) > c); e", "d", "((a | b) > c)"),
    ("idle", "(0 > c); e", "d", "(0 > c)"), ("chain", "((a > b) > c); e", "d", "((a > b) > c)"),
    ("use", "(a > b); e", "d", "(a > b)"),
]


class Check(unittest.TestCase):
    def line_of(self, lines):
        with self.assertRaises(NoLine) as caught:
            check(lines)
        self.assertIs(type(caught.exception.line), int)
        return caught.exception.line

    def test_good_ones(self):
        for lines in GOOD + FEWER + OWN:
            self.assertIs(check(lines), True)
            self.assertIsNone(first_bad_line(lines))

    def test_each_rule_is_among_them(self):
        self.assertEqual({rule for lines in GOOD for rule, *others in lines}, set(RULES))
        self.assertEqual({rule for rule, *others in STANDING}, set(RULES))

    def test_each_beginning_of_good_ones(self):
        for lines in GOOD + FEWER + OWN:
            for many in range(1, len(lines) + 1):
                self.assertIs(check(lines[:many]), True)
            self.assertEqual(self.line_of(lines[:0]), 0)

    def test_each_rule_on_lines_with_just_the_needed_wishes_with_fewer_and_with_own_ones(self):
        for rule, wishes, goal, on in STANDING:
            for extra in ("just", "fewer", "own"):
                lines = by_what_cannot_be(rule, some(wishes), read(goal), None if on is None else read(on), extra)
                self.assertIs(check(lines), True)
                for number, leaned in enumerate(lines[:-1]):
                    more = in_order(leaned[1] + [read("(never | there)")])
                    changed = lines[:number] + [leaned[:1] + (more,) + leaned[2:]] + lines[number + 1:]
                    self.assertEqual(self.line_of(changed), len(lines) - 1, rule)
                    other = lines[:number] + [leaned[:2] + (read("never"),) + leaned[3:]] + lines[number + 1:]
                    self.assertEqual(self.line_of(other), len(lines) - 1, rule)

    def test_bad_ones(self):
        for lines, number in BAD:
            self.assertEqual(self.line_of(lines), number, lines)
            self.assertEqual(first_bad_line(lines), number, lines)

    def test_what_follows_a_bad_one_changes_nothing(self):
        for lines, number in BAD:
            if lines:
                for more in ([], [line("wish", "a", "a", None)], [line("low", "a", "a", None)]):
                    self.assertEqual(self.line_of(lines[:number + 1] + more), number)

    def test_bad_ones_behind_good_ones(self):
        for lines, number in BAD:
            ahead = GOOD[4]
            if lines:
                moved = [one[:4] + ([lean + 3 if lean >= 0 else lean for lean in one[4]],) for one in lines]
                self.assertEqual(self.line_of(ahead + moved), number + 3)

    def test_one_thing_changed_anywhere(self):
        chance = random.Random(1)
        bad = 0
        for number in range(700):
            wishes, goal = random_question(chance, "ab", 16)
            kind, lines = decide(wishes, goal)
            if kind == "lines":
                for other in range(6):
                    changed = self.changed_somewhere(chance, lines)
                    wanted = first_bad_line(changed)
                    if wanted is None:
                        self.assertIs(check(changed), True)
                    else:
                        bad += 1
                        self.assertEqual(self.line_of(changed), wanted, changed)
        self.assertGreater(bad, 500)

    def changed_somewhere(self, chance, lines):
        """The lines with one of them changed, so that it is perhaps a good one still."""
        at = chance.randrange(len(lines))
        rule, wishes, goal, on, leans = lines[at]
        statements = [A, B, LOW, ("then", A, B)] + wishes + [goal] + [one[2] for one in lines]
        what = chance.randrange(8)
        if what == 0:
            rule = chance.choice(RULES + ("one", ""))
        elif what == 1:
            wishes = in_order(wishes + [chance.choice(statements)])
        elif what == 2:
            wishes = [wish for wish in wishes if chance.random() < 0.7]
        elif what == 3:
            wishes = wishes + wishes[:1]
        elif what == 4:
            goal = chance.choice(statements)
        elif what == 5:
            on = chance.choice([None] + statements)
        elif what == 6:
            leans = [chance.randrange(-1, len(lines)) for lean in leans]
        else:
            leans = chance.choice([leans[::-1], leans[:-1], leans + [0], []])
        return lines[:at] + [(rule, list(wishes), goal, on, list(leans))] + lines[at + 1:]

    def test_many_lines(self):
        lines = [line("wish", "a", "a", None)] + [("then", [A], ("then", B, A), None, [0])] * 19998
        lines.append(line("both", "a", "((b > a) & (b > a))", None, 5, 19998))
        self.assertIs(check(lines), True)
        lines[19999] = line("both", "a", "((b > a) & (b > a))", None, 5, 19999)
        self.assertEqual(self.line_of(lines), 19999)
        lines[7777] = line("low", "a", "0", None)
        self.assertEqual(self.line_of(lines), 7777)

    def test_a_long_row_of_lines(self):
        statement = A
        lines = [line("wish", "a", "a", None)]
        for number in range(38):
            statement = ("one", statement, B) if number % 2 else ("then", C, statement)
            lines.append(("first" if number % 2 else "then", [A], statement, None, [number]))
        self.assertIs(check(lines), True)

    def test_great_statements(self):
        for statement in random_statements(2, 10) + [greatest()]:
            wishes = in_order([statement, ("then", statement, A)])
            lines = [("wish", [A], A, None, []), ("known", wishes, A, ("then", statement, A), [0])]
            self.assertIs(check(lines), True)
            lines[1] = ("known", in_order([("one", statement, A), ("then", statement, A)])) + lines[1][2:]
            self.assertEqual(self.line_of(lines), 1)

    def test_what_was_told_here_may_be_handed_on_however_deep(self):
        far = A
        for number in range(3000):
            far = negated(far)
        lines = [("wish", [A, far], far, None, []), ("then", [A], ("then", far, far), None, [0])]
        self.assertIs(check(lines), True)
        lines[1] = ("then", [A], ("then", far, negated(far)), None, [0])
        self.assertEqual(self.line_of(lines), 1)

    def test_kind_of_the_refusal(self):
        for lines, number in BAD[:5]:
            with self.assertRaises(KenError) as caught:
                check(lines)
            self.assertIsInstance(caught.exception, ValueError)
            for name in ("NoText", "NoWorlds", "NoRule", "NoKind", "NoTurning", "Large", "NotShown", "Twice", "NoWish",
                         "NoRow"):
                self.assertNotIsInstance(caught.exception, getattr(errors, name))

    def test_what_came_in_stays(self):
        for lines in GOOD + FEWER + OWN:
            before = copy.deepcopy(lines)
            self.assertEqual([check(lines), check(lines)], [True, True])
            self.assertEqual(lines, before)
        for lines, number in BAD:
            before = copy.deepcopy(lines)
            self.assertEqual([self.line_of(lines), self.line_of(lines)], [number, number])
            self.assertEqual(lines, before)


class WhatLinesTell(unittest.TestCase):
    def look_into(self, lines, chance):
        """Point 3 (b): where all wishes of a line are known, its goal is."""
        many = 0
        words = sorted({word for rule, wishes, goal, on, leans in lines for one in wishes + [goal]
                        for word in ("a", "b", "c") if word in str(one)}) or ["a"]
        for number in range(6):
            worlds = random_worlds(chance, chance.randrange(1, 9), words)
            for rule, wishes, goal, on, leans in lines:
                truths = [known(worlds, wish) for wish in wishes]
                for world, truth in enumerate(known(worlds, goal)):
                    if all(wish[world] for wish in truths):
                        many += 1
                        self.assertTrue(truth, (lines, worlds))
        return many

    def test_hand_made_ones(self):
        chance = random.Random(3)
        self.assertGreater(sum(self.look_into(lines, chance) for lines in GOOD + FEWER + OWN), 300)

    def test_many(self):
        chance = random.Random(4)
        many = 0
        for number in range(250):
            wishes, goal = random_question(chance, "abc")
            kind, lines = decide(wishes, goal)
            if kind == "lines":
                many += self.look_into(lines, chance)
        self.assertGreater(many, 1000)


if __name__ == "__main__":
    unittest.main()
