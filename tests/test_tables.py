"""Point 11, and what point 2 says of lists."""

import itertools
import random
import unittest

from ken.statements import letters, negated
from ken.tables import plain, row_against
from samples import (A, B, C, LOW, PAIRED, WORDS, full, greatest, is_true, ladder, random_statement,
                     random_statements, small_statements)

TWELVE = [("letter", word) for word in ("a", "b", "c", "d", "e", "f", "g", "h", "i", "j", "k", "abcdefgh")]


def some_of(words):
    """All choices of some of these words."""
    return [list(row) for many in range(len(words) + 1) for row in itertools.combinations(words, many)]


class Plain(unittest.TestCase):
    def test_each_kind(self):
        for trues in some_of(["a", "b"]):
            one, other = "a" in trues, "b" in trues
            self.assertIs(plain(LOW, trues), False)
            self.assertIs(plain(A, trues), one)
            self.assertIs(plain(B, trues), other)
            self.assertIs(plain(("both", A, B), trues), one and other)
            self.assertIs(plain(("one", A, B), trues), one or other)
            self.assertIs(plain(("then", A, B), trues), (not one) or other)
            self.assertIs(plain(negated(A), trues), not one)
            self.assertIs(plain(negated(negated(A)), trues), one)
            self.assertIs(plain(("one", A, negated(A)), trues), True)
            self.assertIs(plain(("then", LOW, A), trues), True)

    def test_all_small_statements(self):
        for trues in some_of(["a", "b", "low"]):
            for statement in small_statements(["a", "b", "low"]):
                self.assertIs(plain(statement, trues), is_true(statement, trues), (statement, trues))

    def test_many(self):
        chance = random.Random(1)
        for statement in random_statements(2, 200) + [greatest()]:
            trues = [word for word in WORDS if chance.random() < 0.5]
            self.assertIs(plain(statement, trues), is_true(statement, trues))

    def test_order_and_repeats_and_other_words_change_nothing(self):
        chance = random.Random(3)
        for statement in random_statements(4, 100, 25):
            trues = [word for word in WORDS if chance.random() < 0.5]
            mixed = trues + chance.choices(trues + ["zy", "q"], k=5) + ["q", "zy"]
            chance.shuffle(mixed)
            self.assertIs(plain(statement, mixed), is_true(statement, trues))
            self.assertIs(plain(statement, trues[::-1]), is_true(statement, trues))

    def test_many_trues(self):
        words = [a + b + c for a in "abcdefghijklmnopqrstuvwxyz" for b in "abcdefghijklmnopqrstuvwxyz" for c in "xyz"]
        self.assertIs(plain(A, words), False)
        self.assertIs(plain(A, words * 9 + ["a"]), True)

    def test_what_was_told_here_may_be_handed_on_however_deep(self):
        statement = A
        for number in range(4001):
            statement = negated(statement)
        self.assertIs(plain(statement, []), True)
        self.assertIs(plain(statement, ["a"]), False)

    def test_what_came_in_stays(self):
        trues = ["b", "a", "b"]
        plain(("both", A, B), trues)
        self.assertEqual(trues, ["b", "a", "b"])


class RowAgainst(unittest.TestCase):
    def look_at(self, wishes, goal, row):
        words = sorted({word for statement in wishes + [goal] for word in letters(statement)})
        self.assertIs(type(row), list)
        self.assertEqual(row, sorted(set(row)))
        self.assertTrue(set(row) <= set(words), (row, words))
        self.assertTrue(all(is_true(wish, row) for wish in wishes), (wishes, goal, row))
        self.assertFalse(is_true(goal, row), (wishes, goal, row))

    def try_it(self, wishes, goal):
        """Whether there is a row, as all rows tell; and the one that is told is looked at."""
        words = sorted({word for statement in wishes + [goal] for word in letters(statement)})
        there = any(all(is_true(wish, row) for wish in wishes) and not is_true(goal, row) for row in some_of(words))
        row = row_against(wishes, goal)
        if there:
            self.look_at(wishes, goal, row)
        else:
            self.assertIsNone(row, (wishes, goal))
        return there

    def test_the_only_row(self):
        for wishes, goal, row in [
            ([], A, []),
            ([A], B, ["a"]),
            ([B], A, ["b"]),
            ([C, A, negated(B)], LOW, ["a", "c"]),
            ([A, B], negated(C), ["a", "b", "c"]),
            ([], negated(A), ["a"]),
            ([], ("one", A, B), []),
            ([], negated(("both", A, ("both", B, C))), ["a", "b", "c"]),
            ([("letter", "b"), ("letter", "aa"), ("letter", "a")], LOW, ["a", "aa", "b"]),
            ([("letter", "low")], LOW, ["low"]),
            ([], LOW, []),
            ([negated(LOW)], LOW, []),
        ]:
            self.assertEqual(row_against(wishes, goal), row, (wishes, goal))

    def test_none(self):
        for wishes, goal in [
            ([A], A),
            ([LOW], A),
            ([LOW], LOW),
            ([], negated(LOW)),
            ([], ("one", A, negated(A))),
            ([], ("then", negated(negated(A)), A)),
            ([A, ("then", A, B)], B),
            ([A, negated(A)], C),
            ([("both", A, B)], ("both", B, A)),
            ([], ("then", ("then", ("then", A, B), A), A)),
            ([("one", A, B), negated(A)], B),
        ]:
            self.assertIsNone(row_against(wishes, goal), (wishes, goal))

    def test_no_wishes(self):
        told = [self.try_it([], goal) for goal in small_statements(["a", "b"])]
        self.assertIn(True, told)
        self.assertIn(False, told)

    def test_one_wish(self):
        small = small_statements(["a", "b"])
        told = [self.try_it([wish], goal) for wish in small for goal in small]
        self.assertIn(True, told)
        self.assertIn(False, told)

    def test_statements_without_letters(self):
        simple = [LOW, negated(LOW), ("both", LOW, negated(LOW)), ("one", LOW, negated(LOW)), ("one", LOW, LOW)]
        for wish in simple:
            for goal in simple:
                self.assertEqual(row_against([wish], goal), [] if self.try_it([wish], goal) else None)

    def test_many(self):
        chance = random.Random(5)
        told = []
        for number in range(300):
            wishes = [self.of_few_letters(chance) for other in range(chance.randrange(5))]
            told.append(self.try_it(wishes, self.of_few_letters(chance)))
        self.assertTrue(60 < sum(told) < 240)

    def of_few_letters(self, chance):
        statement = random_statement(chance, chance.randrange(1, 16, 2))
        while any(word not in ("a", "b", "c", "ab", "abc", "low") for word in letters(statement)):
            statement = random_statement(chance, chance.randrange(1, 16, 2))
        return statement

    def test_wishes_twice_and_in_any_order(self):
        wishes = [("one", A, B), negated(("both", A, B)), ("then", A, C)]
        for order in itertools.permutations(wishes + wishes[:1]):
            self.look_at(list(order), ("both", B, C), row_against(list(order), ("both", B, C)))
            self.assertIsNone(row_against(list(order) * 2, ("one", B, C)))

    def test_twelve_letters(self):
        words = sorted(letter[1] for letter in TWELVE)
        self.assertEqual(row_against(TWELVE, LOW), words)
        self.assertEqual(row_against([negated(letter) for letter in TWELVE], LOW), [])
        self.assertEqual(row_against(TWELVE[:-1], TWELVE[-1]), sorted(letter[1] for letter in TWELVE[:-1]))
        for letter in TWELVE:
            others = [other for other in TWELVE if other != letter]
            self.assertEqual(row_against([negated(other) for other in others] + [letter], LOW), [letter[1]])
            self.assertEqual(row_against(others, letter), sorted(other[1] for other in others))
        goal = TWELVE[0]
        for letter in TWELVE[1:]:
            goal = ("one", letter, goal)
        self.assertEqual(row_against([], goal), [])
        self.assertIsNone(row_against([TWELVE[5]], goal))
        chain = [("then", one, other) for one, other in zip(TWELVE, TWELVE[1:])]
        self.assertIsNone(row_against(chain + [TWELVE[0]], TWELVE[-1]))
        self.look_at(chain[:-1] + [TWELVE[0]], TWELVE[-1], row_against(chain[:-1] + [TWELVE[0]], TWELVE[-1]))

    def test_somewhat_beyond_twelve_letters(self):
        more = TWELVE + [("letter", "y"), ("letter", "z")]
        self.assertEqual(row_against(more, LOW), sorted(letter[1] for letter in more))
        self.assertIsNone(row_against(more, more[3]))

    def test_great_statements_and_many_wishes(self):
        for kind in PAIRED:
            for statement in (full(8, kind, A), ladder(40, kind), ladder(40, kind, False)):
                row = row_against([], statement)
                if row is not None:
                    self.look_at([], statement, row)
                other = row_against([statement], LOW)
                if other is not None:
                    self.look_at([statement], LOW, other)
                self.assertFalse(row is None and other is None)
        wishes = [("one", one, other) for one in TWELVE for other in TWELVE if one != other] * 100
        self.assertEqual(len(row_against(wishes, TWELVE[0])), 11)

    def test_what_came_in_stays_and_changes_show_nowhere(self):
        wishes = [B, A, B]
        row = row_against(wishes, C)
        self.assertEqual(wishes, [B, A, B])
        row.append("c")
        row.reverse()
        self.assertEqual(row_against(wishes, C), ["a", "b"])
        wishes.append(C)
        self.assertIsNone(row_against(wishes, C))
        self.assertEqual(row_against([], A), [])
        row_against([], A).append("x")
        self.assertEqual(row_against([], A), [])


if __name__ == "__main__":
    unittest.main()
