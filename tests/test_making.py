"""Point 22, and the first sentence of point 3 (d): terms made of good lines."""

import copy
import random
import unittest

from ken.decide import decide
from ken.kinds import kind, term_deep, term_parts
from ken.lines import check
from ken.making import term_of
from ken.rules import needs
from ken.texts import read
from samples import (A, B, C, LOW, RULES, come_to, counted_term, first_bad_line, in_order, random_lines,
                     random_question, some_read, told_kind)


# A rule, wishes, a goal and on, such that the goal of each need is one of its wishes.
BY_RULE = [
    ("wish", "a", "a", None), ("wish", "a; b; c", "b", None), ("wish", "a; (a & b)", "(a & b)", None),
    ("low", "0", "a", None), ("low", "a; 0; b", "(c > c)", None), ("low", "0", "0", None),
    ("both", "a; b", "(a & b)", None), ("both", "a", "(a & a)", None), ("both", "a; b; c", "(c & a)", None),
    ("first", "a", "(a | b)", None), ("first", "a; b", "(b | b)", None),
    ("second", "b", "(a | b)", None), ("second", "a; b", "(a | a)", None),
    ("then", "", "(a > a)", None), ("then", "b", "(a > b)", None), ("then", "a", "(a > a)", None),
    ("then", "b; c", "(a > c)", None), ("then", "a; c", "(b > b)", None),
    ("parts", "(a & b)", "a", "(a & b)"), ("parts", "(a & b)", "b", "(a & b)"), ("parts", "(a & a)", "a", "(a & a)"),
    ("parts", "c; (a & b)", "c", "(a & b)"), ("parts", "b; (a & b)", "b", "(a & b)"),
    ("parts", "((a & b) & c); (a & b)", "(a & b)", "((a & b) & c)"),
    ("parts", "(0 & (a > b)); a", "(a > b)", "(0 & (a > b))"),
    ("cases", "(a | b); c", "c", "(a | b)"), ("cases", "(a | a)", "a", "(a | a)"),
    ("cases", "(a | b); a", "a", "(a | b)"), ("cases", "(a | b); b", "b", "(a | b)"),
    ("known", "a; (a > b)", "b", "(a > b)"), ("known", "a; c; (a > b)", "c", "(a > b)"),
    ("known", "(a & b); ((a & b) > a)", "a", "((a & b) > a)"), ("known", "b; (b > a); (b > c)", "c", "(b > c)"),
    ("curried", "((a & b) > c)", "(a > (b > c))", "((a & b) > c)"),
    ("curried", "((a & b) > c); d", "d", "((a & b) > c)"), ("curried", "a; ((b & a) > 0)", "(b > ~a)", "((b & a) > 0)"),
    ("curried", "((a & a) > a)", "(a > (a > a))", "((a & a) > a)"),
    ("either", "((a | b) > c)", "(a > c)", "((a | b) > c)"), ("either", "((a | b) > c)", "(b > c)", "((a | b) > c)"),
    ("either", "((a | a) > c)", "(a > c)", "((a | a) > c)"), ("either", "d; ((a | b) > c)", "d", "((a | b) > c)"),
    ("either", "a; b; ((b | 0) > c)", "(0 > c)", "((b | 0) > c)"),
    ("idle", "b; (0 > a)", "b", "(0 > a)"), ("idle", "c; (0 > a); (0 > b)", "(0 > b)", "(0 > a)"),
    ("chain", "(a > b); ((a > b) > c)", "c", "((a > b) > c)"), ("chain", "((a > a) > a)", "a", "((a > a) > a)"),
    ("chain", "d; (a > b); ((a > b) > c)", "d", "((a > b) > c)"), ("chain", "~a; (~a > 0)", "0", "(~a > 0)"),
    ("use", "a; (a > b)", "b", "(a > b)"), ("use", "c; a; (a > b)", "c", "(a > b)"),
    ("use", "a; b; (b > a)", "a", "(b > a)"),
]


class Making(unittest.TestCase):
    def look_at(self, lines):
        """The term of these lines, looked at; the lines stay as they came."""
        before = copy.deepcopy(lines)
        self.assertIs(check(lines), True)
        self.assertIsNone(first_bad_line(lines))
        many, way = come_to(lines, len(lines) - 1)
        term = term_of(lines)
        rule, wishes, goal, on, leans = lines[-1]
        self.assertEqual(told_kind(term, wishes), goal, lines)
        self.assertEqual(kind(term, wishes), goal)
        parts, deep = counted_term(term)
        self.assertLessEqual(parts, 40 * many)
        self.assertLessEqual(deep, 6 * way)
        self.assertEqual((term_parts(term), term_deep(term)), (parts, deep))
        self.assertEqual(lines, before)
        return term

    def test_each_rule(self):
        self.assertEqual({row[0] for row in BY_RULE}, set(RULES))
        for rule, texts, goal, on in BY_RULE:
            wishes, goal, on = in_order(some_read(texts)), read(goal), on and read(on)
            needed = needs(rule, wishes, goal, on)
            # With just the needed wishes, with the one alone that is needed, with all that may be there.
            for wishes_of in (lambda need: need[0], lambda need: [need[1]], lambda need: in_order(need[0] + wishes),
                              lambda need: in_order([need[1]] + wishes)):
                lines = [("wish", wishes_of(need), need[1], None, []) for need in needed]
                lines.append((rule, wishes, goal, on, list(range(len(needed)))))
                self.look_at(lines)

    def test_each_rule_with_what_cannot_be(self):
        for rule, texts, goal, on in BY_RULE:
            wishes, goal, on = in_order(some_read(texts) + [LOW]), read(goal), on and read(on)
            needed = needs(rule, wishes, goal, on)
            lines = [("low", [LOW], need[1], None, []) for need in needed]
            self.look_at(lines + [(rule, wishes, goal, on, list(range(len(needed))))])

    def test_the_wishes_as_they_stand_there(self):
        lines = [("wish", [A, B, C], B, None, [])]
        self.assertEqual(term_of(lines), ("at", 1))
        self.assertEqual(term_of([("low", [A, LOW], B, None, [])]), ("off", ("at", 1), B))

    def test_one_line_that_several_lean_on(self):
        two = ("both", A, A)
        self.look_at([("wish", [A], A, None, []), ("both", [A], two, None, [0, 0]),
                      ("both", [A], ("both", two, A), None, [1, 0]),
                      ("both", [A], ("both", ("both", two, A), two), None, [2, 1])])
        on, other = read("(b | c)"), read("(a > b)")
        self.look_at([("wish", [A], A, None, []), ("cases", in_order([A, on]), A, on, [0, 0]),
                      ("use", in_order([A, on, other]), A, other, [1, 1])])

    def test_lines_that_are_not_come_to(self):
        # The first sixty are come to some 2 ** 60 times from the last one of them; but it isn't come to.
        on = ("one", A, A)
        lines = [("wish", [B], B, None, [])]
        lines.extend([("cases", [B, on], B, on, [number, number]) for number in range(60)])
        lines.extend([("wish", [A, B], A, None, []), ("then", [B], ("then", A, A), None, [61])])
        self.assertEqual(self.look_at(lines), ("fun", A, ("at", 0)))

    def test_lines_that_were_told(self):
        chance = random.Random(1)
        looked_at = 0
        for number in range(1500):
            wishes, goal = random_question(chance, chance.choice(("a", "ab", "ab", "abc")))
            told, lines = decide(wishes, goal)
            if told == "lines" and len(lines) < 50:
                many, way = come_to(lines, len(lines) - 1)
                if many <= 100 and way <= 20:
                    self.look_at(lines)
                    looked_at += 1
        self.assertGreater(looked_at, 500)

    def test_lines_that_were_told_with_fewer_wishes(self):
        chance = random.Random(2)
        for number in range(700):
            wishes, goal = random_question(chance, chance.choice(("a", "ab", "ab", "abc")))
            told, lines = decide(wishes, goal)
            if told == "lines" and len(lines) < 50:
                many, way = come_to(lines, len(lines) - 1)
                if many <= 100 and way <= 20:
                    self.look_at(loosened(chance, lines))

    def test_lines_by_all_rules(self):
        chance = random.Random(3)
        last_rules = []
        for number in range(400):
            lines = random_lines(chance, chance.choice((2, 5, 10, 20)), near=chance.choice((2, 4, 8)))
            for end in range(1, len(lines) + 1):
                many, way = come_to(lines, end - 1)
                if many <= 100 and way <= 20:
                    self.look_at(lines[:end])
                    last_rules.append(lines[end - 1][0])
        for rule in RULES:
            self.assertGreater(last_rules.count(rule), 100, rule)

    def test_ways_of_twenty_lines(self):
        chance = random.Random(4)
        for rule in RULES:
            if rule not in ("wish", "low", "both", "cases", "chain", "use"):
                for number in range(3):
                    lines = random_lines(chance, 20, [rule], 1)
                    self.assertEqual(come_to(lines, 19), (20, 20))
                    self.look_at(lines)
        for number in range(60):
            lines = random_lines(chance, 20, ("first", "then", "parts", "known", "curried", "either", "idle"), 1)
            self.assertEqual(come_to(lines, 19), (20, 20))
            self.look_at(lines)

    def test_two_needs_and_twenty_lines_on_the_way(self):
        for rule in ("both", "cases", "use", "chain"):
            for side in (0, 1):
                lines = long_way(rule, side)
                many, way = come_to(lines, len(lines) - 1)
                self.assertEqual(way, 20)
                self.assertLessEqual(many, 100)
                self.look_at(lines)

    def test_a_count_of_a_hundred(self):
        lines = [("wish", [A], A, None, [])]
        for number in range(5):
            goal = lines[-1][2]
            lines.append(("both", [A], ("both", goal, goal), None, [number, number]))
        # 63 lines so far, as often as they are come to; 31 and five more.
        lines.append(("both", [A], ("both", lines[5][2], lines[4][2]), None, [5, 4]))
        for number in range(5):
            lines.append(("first", [A], ("one", lines[-1][2], B), None, [len(lines) - 1]))
        self.assertEqual(come_to(lines, len(lines) - 1)[0], 100)
        self.look_at(lines)


def long_way(rule, side):
    """Good lines, the longest way of which has twenty and goes through the one need of this rule again and again."""
    word_of = [("letter", "abcdefghijklmnopqrst"[number]) for number in range(20)]
    goal = ("then", word_of[0], word_of[0])
    lines = [("wish", [word_of[0]], word_of[0], None, []), ("then", [], goal, None, [0]), ("low", [LOW], LOW, None, [])]
    last = 1
    for number in range(18):
        wishes, end = lines[last][1], lines[last][2]
        if rule == "both":
            goal = ("both", end, LOW) if side == 0 else ("both", LOW, end)
            leans = [last, 2] if side == 0 else [2, last]
            lines.append(("both", in_order(wishes + [LOW]), goal, None, leans))
        elif rule == "cases":
            lines.append(("low", [LOW], end, None, []))
            on = ("one", word_of[number], LOW) if side == 0 else ("one", LOW, word_of[number])
            leans = [last, len(lines) - 1] if side == 0 else [len(lines) - 1, last]
            lines.append(("cases", in_order(wishes + [on]), end, on, leans))
        elif side == 0:
            # The way goes through what is ahead of the "if"; what is behind it is the goal.
            on = ("then", end, ("then", word_of[number], word_of[number + 1]))
            lines.append(("wish", [on[2]], on[2], None, []))
            lines.append((rule, in_order(wishes + [on]), on[2], on, [last, len(lines) - 1]))
        else:
            on = ("then", goal, word_of[number])
            lines.append((rule, in_order(wishes + [on]), end, on, [1, last]))
        last = len(lines) - 1
    return lines


def loosened(chance, lines):
    """Good lines by the same rules with fewer wishes, and some with more of the lines' own ones."""
    told = []
    for rule, wishes, goal, on, leans in lines:
        kept = {on} if on else set()
        kept |= {goal} if rule == "wish" else {LOW} if rule == "low" else {on[1]} if rule == "known" else set()
        for lean in leans:
            kept |= set(told[lean][1]) & set(wishes)
        told.append((rule, sorted(kept), goal, on, list(leans)))
    for number in range(len(told) - 1, -1, -1):
        may_be = None
        for rule, wishes, goal, on, leans in told[number + 1:]:
            for lean, need in zip(leans, needs(rule, wishes, goal, on)):
                if lean == number:
                    here = set(need[0]) | set(wishes)
                    may_be = here if may_be is None else may_be & here
        rule, wishes, goal, on, leans = told[number]
        more = {one for one in sorted(may_be or []) if chance.random() < 0.3}
        told[number] = (rule, sorted(more | set(wishes)), goal, on, leans)
    return told


if __name__ == "__main__":
    unittest.main()
