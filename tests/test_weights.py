"""Point 12, and what point 2 says of lists."""

import itertools
import random
import unittest

from ken.statements import negated
from ken.weights import measure, weight
from samples import A, B, C, LOW, WORDS, full, greatest, ladder, random_statements, small_statements


def told_weight(statement):
    """The weight as the words of the document tell it."""
    if statement[0] in ("low", "letter"):
        return 2
    a, b = told_weight(statement[1]), told_weight(statement[2])
    return {"both": a * b + a + b, "one": a + b + 1, "then": a * (b + 1)}[statement[0]]


class Weight(unittest.TestCase):
    def test_each_kind(self):
        for statement, wanted in [
            (LOW, 2),
            (A, 2),
            (("letter", "zzzzzzzz"), 2),
            (("both", A, B), 8),
            (("one", A, B), 5),
            (("then", A, B), 6),
            (negated(A), 6),
            (negated(negated(A)), 18),
            (("then", A, negated(B)), 14),
            (("then", negated(A), B), 18),
            (("both", A, ("one", B, C)), 17),
            (("both", ("one", B, C), A), 17),
            (("one", A, ("both", B, C)), 11),
            (("then", A, ("both", B, C)), 18),
            (("then", ("both", B, C), A), 24),
            (("then", ("one", B, C), A), 15),
            (("then", A, ("one", B, C)), 12),
        ]:
            self.assertEqual(weight(statement), wanted, statement)
            self.assertIs(type(weight(statement)), int)

    def test_all_small_statements(self):
        for statement in small_statements(WORDS):
            self.assertEqual(weight(statement), told_weight(statement))

    def test_many(self):
        great = [greatest(), full(8, "both", A), full(8, "one", A), full(8, "then", A)]
        arms = [ladder(40, kind, on_left) for kind in ("both", "one", "then") for on_left in (True, False)]
        for statement in random_statements(1, 300) + great + arms:
            self.assertEqual(weight(statement), told_weight(statement))

    def test_the_heaviest(self):
        self.assertEqual(weight(full(8, "both", LOW)), 3 ** 128 - 1)
        self.assertEqual(weight(full(8, "one", LOW)), 3 * 128 - 1)

    def test_what_was_told_here_may_be_handed_on_however_deep(self):
        statement = A
        for number in range(3000):
            statement = negated(statement)
        self.assertEqual(weight(statement), 2 * 3 ** 3000)


class Measure(unittest.TestCase):
    def test_no_wishes(self):
        for statement in [LOW, A] + random_statements(2, 50):
            self.assertEqual(measure([], statement), told_weight(statement))

    def test_wishes_and_a_goal(self):
        self.assertEqual(measure([A], B), 4)
        self.assertEqual(measure([A], A), 4)
        self.assertEqual(measure([A, ("both", A, B)], ("one", A, B)), 15)
        self.assertEqual(measure([LOW, A, B, negated(A)], negated(negated(A))), 30)

    def test_in_any_order(self):
        wishes = [A, LOW, ("then", A, B), ("both", A, B)]
        for order in itertools.permutations(wishes):
            self.assertEqual(measure(list(order), C), 20)

    def test_a_wish_that_stands_there_twice_counts_once(self):
        self.assertEqual(measure([A, A], B), 4)
        self.assertEqual(measure([B, A, B, A, B], B), 6)
        self.assertEqual(measure([("both", A, B), A, ("both", A, B)], LOW), 12)

    def test_many(self):
        chance = random.Random(3)
        for number in range(60):
            wishes = random_statements(number, chance.randrange(1, 6))
            goal = chance.choice(wishes + random_statements(number + 100, 3))
            mixed = wishes + chance.choices(wishes, k=3)
            chance.shuffle(mixed)
            wanted = sum(told_weight(wish) for wish in set(wishes)) + told_weight(goal)
            self.assertEqual(measure(mixed, goal), wanted)
            self.assertIs(type(measure(mixed, goal)), int)

    def test_a_long_list(self):
        self.assertEqual(measure([A, B, C, ("one", A, B)] * 5000, A), 13)

    def test_what_came_in_stays(self):
        wishes = [B, A, B]
        self.assertEqual([measure(wishes, C), measure(wishes, C)], [6, 6])
        self.assertEqual(wishes, [B, A, B])


if __name__ == "__main__":
    unittest.main()
