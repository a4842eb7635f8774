"""Points 13, 14, 15 and 16, and what point 2 says of lists."""

import copy
import random
import unittest

from ken import errors
from ken.errors import KenError, NoRule
from ken.rules import needs, ways
from ken.statements import compared, deep, negated
from ken.texts import read
from ken.weights import measure
from samples import (A, B, C, FREE_RULES, LOW, PAIRED, RULES, few_words, greatest, in_order, own_lists, random_question,
                     random_statements, small_statements, told_needs)


def some(texts):
    """The statements of these texts, sorted, each once."""
    return in_order([read(text) for text in texts.split("; ")] if texts else [])


def one(text):
    return None if text is None else read(text)


# The rule, the wishes, the goal, on; and the needs, wishes and a goal each.
STANDING = [
    ("wish", "a", "a", None, []),
    ("wish", "a; b; (a & b)", "(a & b)", None, []),
    ("wish", "0", "0", None, []),
    ("wish", "0; (a | b); ~a", "~a", None, []),
    ("low", "0", "a", None, []),
    ("low", "0", "0", None, []),
    ("low", "a; 0; (a > b)", "(c & c)", None, []),
    ("both", "", "(a & b)", None, [("", "a"), ("", "b")]),
    ("both", "c; ~d", "(b & (a | a))", None, [("c; ~d", "b"), ("c; ~d", "(a | a)")]),
    ("both", "a", "(a & a)", None, [("a", "a"), ("a", "a")]),
    ("first", "", "(a | b)", None, [("", "a")]),
    ("first", "b", "(~c | b)", None, [("b", "~c")]),
    ("second", "", "(a | b)", None, [("", "b")]),
    ("second", "a; c", "(a | (b & 0))", None, [("a; c", "(b & 0)")]),
    ("then", "", "(a > b)", None, [("a", "b")]),
    ("then", "", "~a", None, [("a", "0")]),
    ("then", "b; (c | c)", "(a > (b > c))", None, [("a; b; (c | c)", "(b > c)")]),
    ("then", "b; (c | c)", "((c | d) > a)", None, [("b; (c | c); (c | d)", "a")]),
    # A is a wish already
    ("then", "a; b", "(a > c)", None, [("a; b", "c")]),
    ("then", "0", "(0 > c)", None, [("0", "c")]),
    ("parts", "(a & b)", "c", "(a & b)", [("a; b", "c")]),
    ("parts", "(b & a); ~c", "c", "(b & a)", [("a; b; ~c", "c")]),
    ("parts", "(a & b); (a & c)", "0", "(a & c)", [("(a & b); a; c", "0")]),
    ("parts", "(a & a)", "c", "(a & a)", [("a", "c")]),
    ("parts", "a; b; (a & b)", "c", "(a & b)", [("a; b", "c")]),
    ("parts", "b; (a & b)", "c", "(a & b)", [("a; b", "c")]),
    ("parts", "((a & b) & 0)", "c", "((a & b) & 0)", [("(a & b); 0", "c")]),
    ("cases", "(a | b)", "c", "(a | b)", [("a", "c"), ("b", "c")]),
    ("cases", "d; (a | (b & c))", "(c | d)", "(a | (b & c))", [("a; d", "(c | d)"), ("(b & c); d", "(c | d)")]),
    ("cases", "a; (a | b)", "c", "(a | b)", [("a", "c"), ("a; b", "c")]),
    ("cases", "b; (a | b)", "c", "(a | b)", [("a; b", "c"), ("b", "c")]),
    ("cases", "(a | a)", "a", "(a | a)", [("a", "a"), ("a", "a")]),
    ("known", "a; (a > b)", "c", "(a > b)", [("a; b", "c")]),
    ("known", "a; b; (a > b)", "c", "(a > b)", [("a; b", "c")]),
    ("known", "a; ~a", "c", "~a", [("0; a", "c")]),
    ("known", "(a & b); ((a & b) > c)", "c", "((a & b) > c)", [("(a & b); c", "c")]),
    ("known", "0; (0 > a)", "c", "(0 > a)", [("0; a", "c")]),
    ("known", "(a > b); ((a > b) > (a > b))", "c", "((a > b) > (a > b))", [("(a > b)", "c")]),
    ("known", "a; (a > a)", "c", "(a > a)", [("a", "c")]),
    ("curried", "((a & b) > c)", "d", "((a & b) > c)", [("(a > (b > c))", "d")]),
    ("curried", "a; ((a & b) > c); ~d", "d", "((a & b) > c)", [("a; (a > (b > c)); ~d", "d")]),
    ("curried", "((a & b) > c); (a > (b > c))", "d", "((a & b) > c)", [("(a > (b > c))", "d")]),
    ("curried", "~(a & b)", "d", "~(a & b)", [("(a > ~b)", "d")]),
    ("either", "((a | b) > c)", "d", "((a | b) > c)", [("(a > c); (b > c)", "d")]),
    ("either", "a; ((b | a) > c)", "d", "((b | a) > c)", [("a; (a > c); (b > c)", "d")]),
    ("either", "(a > c); ((a | b) > c)", "d", "((a | b) > c)", [("(a > c); (b > c)", "d")]),
    ("either", "((a | a) > c)", "d", "((a | a) > c)", [("(a > c)", "d")]),
    ("either", "~(a | b)", "0", "~(a | b)", [("~a; ~b", "0")]),
    ("idle", "(0 > c)", "d", "(0 > c)", [("", "d")]),
    ("idle", "a; ~0; ~a", "d", "~0", [("a; ~a", "d")]),
    ("chain", "((a > b) > c)", "d", "((a > b) > c)", [("(b > c)", "(a > b)"), ("c", "d")]),
    ("chain", "a; ((a > b) > c)", "d", "((a > b) > c)", [("a; (b > c)", "(a > b)"), ("a; c", "d")]),
    ("chain", "(b > c); ((a > b) > c)", "d", "((a > b) > c)", [("(b > c)", "(a > b)"), ("(b > c); c", "d")]),
    ("chain", "c; ((a > b) > c)", "d", "((a > b) > c)", [("c; (b > c)", "(a > b)"), ("c", "d")]),
    ("chain", "~~a", "a", "~~a", [("~0", "~a"), ("0", "a")]),
    ("use", "(a > b)", "c", "(a > b)", [("(a > b)", "a"), ("b; (a > b)", "c")]),
    ("use", "b; (a > b)", "c", "(a > b)", [("b; (a > b)", "a"), ("b; (a > b)", "c")]),
    ("use", "a; ~a", "c", "~a", [("a; ~a", "a"), ("0; a; ~a", "c")]),
    ("use", "((a & b) > (c | d)); e", "c", "((a & b) > (c | d))",
     [("e; ((a & b) > (c | d))", "(a & b)"), ("e; (c | d); ((a & b) > (c | d))", "c")]),
]

REFUSED = [
    # words that are no rules
    ("", "a", "a", None), ("Wish", "a", "a", None), ("wish ", "a", "a", None), ("wishes", "a", "a", None),
    ("one", "a", "(a | b)", None), ("letter", "a", "a", None), ("cut", "a", "a", None), ("\n", "a", "a", None),
    ("one", "(a | b)", "a", "(a | b)"), ("used", "(a > b)", "a", "(a > b)"), ("thirdly", "a", "(a | b)", None),
    # on where none may be
    ("wish", "a", "a", "a"), ("wish", "a; b", "a", "b"), ("low", "0", "a", "0"), ("both", "a", "(a & a)", "a"),
    ("first", "a", "(a | a)", "a"), ("second", "a", "(a | a)", "a"), ("then", "a", "(a > a)", "a"),
    ("wish", "a", "a", "b"), ("low", "0", "a", "a"), ("both", "(a & a)", "(a & a)", "(a & a)"),
    ("then", "", "(a > a)", "(a > a)"),
    # None where on is asked
    ("parts", "(a & b)", "c", None), ("cases", "(a | b)", "c", None), ("known", "a; (a > b)", "c", None),
    ("curried", "((a & b) > c)", "d", None), ("either", "((a | b) > c)", "d", None), ("idle", "(0 > c)", "d", None),
    ("chain", "((a > b) > c)", "d", None), ("use", "(a > b)", "c", None),
    # a statement that is no wish
    ("parts", "", "c", "(a & b)"), ("parts", "(b & a)", "c", "(a & b)"), ("cases", "a; b", "c", "(a | b)"),
    ("known", "a", "b", "(a > b)"), ("curried", "(a > (b > c))", "c", "((a & b) > c)"),
    ("either", "(a > c)", "c", "((a | b) > c)"), ("idle", "", "c", "(0 > c)"), ("idle", "(0 > b)", "c", "(0 > c)"),
    ("chain", "((a > b) > b)", "c", "((a > b) > c)"), ("use", "a", "b", "(a > b)"), ("use", "(b > a)", "b", "(a > b)"),
    # a goal of another form
    ("wish", "", "a", None), ("wish", "b; c", "a", None), ("wish", "(a & b)", "a", None), ("low", "", "a", None),
    ("low", "a; ~0", "0", None), ("low", "", "0", None), ("both", "", "a", None), ("both", "", "0", None),
    ("both", "", "(a | b)", None), ("both", "", "(a > b)", None), ("first", "", "(a & b)", None),
    ("first", "", "a", None), ("first", "", "(a > b)", None), ("second", "", "(a & b)", None),
    ("second", "", "0", None), ("second", "", "~a", None), ("then", "", "(a & b)", None), ("then", "", "(a | b)", None),
    ("then", "", "a", None), ("then", "", "0", None),
    # an on of another form
    ("parts", "(a | b)", "c", "(a | b)"), ("parts", "a", "c", "a"), ("parts", "0", "c", "0"),
    ("parts", "(a > b)", "c", "(a > b)"), ("cases", "(a & b)", "c", "(a & b)"), ("cases", "a", "c", "a"),
    ("cases", "~a", "c", "~a"), ("known", "a", "a", "a"), ("known", "(a & b); a", "c", "(a & b)"),
    ("known", "(a | b); a", "c", "(a | b)"), ("known", "0", "a", "0"),
    ("curried", "((a | b) > c)", "d", "((a | b) > c)"), ("curried", "(a > c)", "d", "(a > c)"),
    ("curried", "(a & b)", "d", "(a & b)"), ("curried", "(c > (a & b))", "d", "(c > (a & b))"),
    ("curried", "((a & b) | c)", "d", "((a & b) | c)"), ("either", "((a & b) > c)", "d", "((a & b) > c)"),
    ("either", "~a", "d", "~a"), ("either", "(a | b)", "d", "(a | b)"),
    ("either", "((a | b) & c)", "d", "((a | b) & c)"),
    ("either", "(c > (a | b))", "d", "(c > (a | b))"), ("idle", "(a > 0)", "d", "(a > 0)"), ("idle", "0", "d", "0"),
    ("idle", "(0 & a)", "d", "(0 & a)"), ("idle", "(0 | a)", "d", "(0 | a)"), ("idle", "~~0", "d", "~~0"),
    ("idle", "(low > a)", "d", "(low > a)"),
    ("chain", "(a > (b > c))", "d", "(a > (b > c))"), ("chain", "((a & b) > c)", "d", "((a & b) > c)"),
    ("chain", "(a > b)", "d", "(a > b)"), ("chain", "((a > b) | c)", "d", "((a > b) | c)"), ("chain", "~0", "d", "~0"),
    ("use", "(a & b)", "c", "(a & b)"), ("use", "(a | b)", "c", "(a | b)"), ("use", "a", "c", "a"),
    # known, where A is no wish
    ("known", "(a > b)", "c", "(a > b)"), ("known", "b; (a > b)", "c", "(a > b)"), ("known", "~a", "a", "~a"),
    ("known", "a; b; ((a & b) > c)", "c", "((a & b) > c)"), ("known", "(a > b); ((a > c) > c)", "c", "((a > c) > c)"),
    ("known", "(0 > a)", "a", "(0 > a)"),
]


class Needs(unittest.TestCase):
    def test_each_rule_where_it_may_stand(self):
        for rule, wishes, goal, on, wanted in STANDING:
            told = needs(rule, some(wishes), one(goal), one(on))
            self.assertEqual(told, [(some(these), one(this)) for these, this in wanted], (rule, wishes, goal, on))

    def test_every_rule_stands_there(self):
        self.assertEqual({rule for rule, *others in STANDING}, set(RULES))

    def test_refused(self):
        for rule, wishes, goal, on in REFUSED:
            with self.assertRaises(NoRule, msg=(rule, wishes, goal, on)):
                needs(rule, some(wishes), one(goal), one(on))

    def test_any_rule_with_any_on(self):
        chance = random.Random(1)
        small = small_statements(["a", "b"])
        stood = {rule: 0 for rule in RULES}
        for number in range(400):
            larger = [few_words(chance, 5, "abc") for other in range(3)]
            wishes = in_order(chance.sample(small, chance.randrange(6)) + larger)
            goal = chance.choice(small + wishes)
            for rule in RULES + ("one", "", "if"):
                for on in [None, chance.choice(small)] + wishes:
                    wanted = told_needs(rule, wishes, goal, on)
                    if wanted is None:
                        with self.assertRaises(NoRule):
                            needs(rule, wishes, goal, on)
                    else:
                        self.assertEqual(needs(rule, wishes, goal, on), wanted, (rule, wishes, goal, on))
                        stood[rule] += 1
        self.assertTrue(all(stood.values()), stood)

    def test_great_statements(self):
        for first in random_statements(2, 10) + [greatest()]:
            for last in random_statements(3, 3):
                for kind in PAIRED:
                    on = ("then", (kind, first, last), last)
                    wishes = in_order([on, last, first, A, ("both", first, last), ("one", first, last), LOW])
                    for rule in RULES:
                        for goal in ((kind, last, first), last):
                            for this in [None] + wishes:
                                wanted = told_needs(rule, wishes, goal, this)
                                if wanted is not None:
                                    self.assertEqual(needs(rule, wishes, goal, this), wanted)

    def test_long_wishes(self):
        words = ["".join((x, y, z)) for x in "abcdefghijklmnopqrstuvwxyz" for y in "abcdefghijklmnopqrstuvwxyz"
                 for z in "pqrs"]
        wishes = in_order([("letter", word) for word in words] + [("both", A, B)])
        self.assertEqual(needs("parts", wishes, C, ("both", A, B)), [(in_order(wishes[1:] + [A, B]), C)])
        self.assertEqual(needs("then", wishes, negated(("letter", "mmq")), None), [(wishes, LOW)])

    def test_what_was_told_here_may_be_handed_on_however_deep(self):
        far = A
        for number in range(3000):
            far = negated(far)
        (wishes, goal), = needs("then", [A, B], ("then", far, far), None)
        self.assertEqual(compared(goal, far), 0)
        self.assertEqual([deep(wish) for wish in wishes], [1, 1, 3001])
        self.assertEqual(needs("wish", wishes, far, None), [])
        self.assertEqual(len(needs("then", wishes, ("then", far, A), None)[0][0]), 3)
        self.assertEqual(len(needs("chain", wishes, A, far)), 2)
        with self.assertRaises(NoRule):
            needs("wish", wishes, negated(far), None)

    def test_kind_of_the_refusal(self):
        for rule, wishes, goal, on in REFUSED[::9]:
            with self.assertRaises(KenError) as caught:
                needs(rule, some(wishes), one(goal), one(on))
            self.assertIsInstance(caught.exception, ValueError)
            for name in ("NoText", "NoWorlds", "NoLine", "NoKind", "NoTurning", "Large", "NotShown", "Twice", "NoWish",
                         "NoRow"):
                self.assertNotIsInstance(caught.exception, getattr(errors, name))

    def test_what_came_in_stays(self):
        for rule, texts, goal, on, wanted in STANDING:
            wishes = some(texts)
            told = needs(rule, wishes, one(goal), one(on))
            self.assertEqual(wishes, some(texts))
            self.assertEqual(needs(rule, wishes, one(goal), one(on)), told)
        for rule, texts, goal, on in REFUSED:
            wishes = some(texts)
            with self.assertRaises(NoRule):
                needs(rule, wishes, one(goal), one(on))
            self.assertEqual(wishes, some(texts))

    def test_each_list_is_its_own(self):
        for rule, texts, goal, on, wanted in STANDING:
            wishes = some(texts)
            told = needs(rule, wishes, one(goal), one(on))
            again = needs(rule, wishes, one(goal), one(on))
            self.assertIs(type(told), list)
            for need in told:
                self.assertIs(type(need), tuple)
                self.assertIs(type(need[0]), list)
            self.assertTrue(own_lists(wishes, told, again), rule)
            before = copy.deepcopy(again)
            for need in told:
                need[0].append(C)
                need[0].reverse()
            told.clear()
            self.assertEqual(wishes, some(texts))
            self.assertEqual(again, before)
            self.assertEqual(needs(rule, wishes, one(goal), one(on)), before)
            wishes.append(A)
            self.assertEqual(again, before)


def told_ways(wishes, goal):
    """The ways as the words of the document tell them."""
    told = []
    for rule in RULES[:-1]:
        for on in [None] if rule in FREE_RULES else in_order(wishes):
            needed = told_needs(rule, wishes, goal, on)
            if needed is not None:
                told.append((rule, on, needed))
    return told


class Ways(unittest.TestCase):
    def names_of(self, wishes, goal):
        return [(rule, on) for rule, on, needed in ways(some(wishes), one(goal))]

    def test_none(self):
        self.assertEqual(ways([], A), [])
        self.assertEqual(ways([], LOW), [])
        self.assertEqual(ways([A, B], C), [])
        self.assertEqual(ways([A, ("then", B, C)], C), [])

    def test_by_the_goal(self):
        self.assertEqual(ways([], ("both", A, B)), [("both", None, [([], A), ([], B)])])
        self.assertEqual(ways([], ("one", A, B)), [("first", None, [([], A)]), ("second", None, [([], B)])])
        self.assertEqual(ways([], ("then", A, B)), [("then", None, [([A], B)])])
        self.assertEqual(ways([A], A), [("wish", None, [])])
        self.assertEqual(ways([LOW], A), [("low", None, [])])
        self.assertEqual(ways([LOW], LOW), [("wish", None, []), ("low", None, [])])
        self.assertEqual(ways([LOW, ("one", A, B)], ("one", A, B)), [
            ("wish", None, []), ("low", None, []), ("first", None, [([LOW, ("one", A, B)], A)]),
            ("second", None, [([LOW, ("one", A, B)], B)]),
            ("cases", ("one", A, B), [([A, LOW], ("one", A, B)), ([B, LOW], ("one", A, B))])])

    def test_order_of_the_rules_and_of_the_wishes(self):
        wishes = ("(a & b); (b & a); 0; a; (a | b); (b | 0); (a > b); (0 > c); (0 > d); ((a > b) > c); ((a > c) > c);"
                  " ((a & b) > c); ((b & a) > c); ((a | b) > c); ((b | a) > 0)")
        self.assertEqual(self.names_of(wishes, "(a > b)"), [
            ("wish", None), ("low", None), ("then", None),
            ("parts", one("(a & b)")), ("parts", one("(b & a)")),
            ("cases", one("(a | b)")), ("cases", one("(b | 0)")),
            ("known", one("((a & b) > c)")), ("known", one("((b & a) > c)")), ("known", one("(a > b)")),
            ("known", one("(0 > c)")), ("known", one("(0 > d)")), ("known", one("((a | b) > c)")),
            ("known", one("((a > b) > c)")),
            ("curried", one("((a & b) > c)")), ("curried", one("((b & a) > c)")),
            ("either", one("((a | b) > c)")), ("either", one("((b | a) > 0)")),
            ("idle", one("(0 > c)")), ("idle", one("(0 > d)")),
            ("chain", one("((a > b) > c)")), ("chain", one("((a > c) > c)"))])

    def test_never_by_use(self):
        for wishes, goal in [("(a > b)", "b"), ("a; (a > b)", "b"), ("((a > b) > a)", "a")]:
            self.assertNotIn("use", [rule for rule, on in self.names_of(wishes, goal)])

    def test_many(self):
        chance = random.Random(4)
        seen = set()
        for number in range(400):
            wishes, goal = random_question(chance, chance.choice(("ab", "abc")), chance.choice((12, 24, 40)))
            wishes = in_order(wishes + [few_words(chance, 3, "ab") for other in range(chance.randrange(4))])
            told = ways(wishes, goal)
            self.assertEqual(told, told_ways(wishes, goal), (wishes, goal))
            seen.update(rule for rule, on, needed in told)
        self.assertEqual(seen, set(RULES[:-1]))

    def test_great_statements(self):
        for statement in random_statements(5, 10) + [greatest()]:
            wishes = in_order([statement, ("then", statement, A), ("then", ("then", A, statement), B),
                               ("then", ("one", A, statement), B), ("then", ("both", A, statement), B)])
            self.assertEqual(ways(wishes, statement), told_ways(wishes, statement))

    def test_what_came_in_stays_and_each_list_is_its_own(self):
        wishes = some("a; (a & b); (a | b); (a > b); ((a > b) > c); ((a | b) > c)")
        before = list(wishes)
        for goal in ("a", "(a & b)", "(a | b)", "(a > b)"):
            told = ways(wishes, one(goal))
            again = ways(wishes, one(goal))
            self.assertEqual(wishes, before)
            self.assertTrue(own_lists(wishes, told, again))
            kept = copy.deepcopy(again)
            for rule, on, needed in told:
                self.assertIs(type(needed), list)
                for need in needed:
                    need[0].append(LOW)
                needed.clear()
            told.clear()
            self.assertEqual(again, kept)
            self.assertEqual(ways(wishes, one(goal)), kept)
            self.assertEqual(wishes, before)


class LesserMeasure(unittest.TestCase):
    def test_each_need_of_each_way(self):
        chance = random.Random(6)
        for number in range(300):
            wishes, goal = random_question(chance, "abc", chance.choice((10, 24, 60)))
            wishes = in_order(wishes)
            for rule, on, needed in ways(wishes, goal):
                for need_wishes, need_goal in needed:
                    self.assertLess(measure(need_wishes, need_goal), measure(wishes, goal), (rule, on, wishes, goal))

    def test_going_on_from_needs_to_needs(self):
        chance = random.Random(7)
        for number in range(150):
            wishes, goal = random_question(chance, "abc")
            wishes = in_order(wishes)
            needed = [(wishes, goal)]
            now = measure(wishes, goal)
            while needed:
                wishes, goal = chance.choice(needed)
                self.assertLessEqual(measure(wishes, goal), now)
                now = measure(wishes, goal)
                needed = [need for rule, on, these in ways(wishes, goal) for need in these]
                self.assertTrue(all(measure(*need) < now for need in needed))


if __name__ == "__main__":
    unittest.main()
