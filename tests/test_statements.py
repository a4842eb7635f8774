"""Points 4, 5 and 6, and what point 2 says of lists."""

import copy
import itertools
import random
import unittest

from ken.statements import deep, letters, negated, once, parts
from samples import A, B, C, LOW, PAIRED, WORDS, counted, full, greatest, ladder, random_statements


def far_negated(statement, times):
    for number in range(times):
        statement = negated(statement)
    return statement


class Parts(unittest.TestCase):
    def test_what_cannot_be_and_letters(self):
        self.assertEqual((parts(LOW), deep(LOW), letters(LOW)), (1, 1, []))
        for word in WORDS:
            self.assertEqual((parts(("letter", word)), deep(("letter", word)), letters(("letter", word))),
                             (1, 1, [word]))

    def test_each_other_kind(self):
        for kind in PAIRED:
            statement = (kind, B, A)
            self.assertEqual((parts(statement), deep(statement), letters(statement)), (3, 2, ["a", "b"]))
            statement = (kind, LOW, LOW)
            self.assertEqual((parts(statement), deep(statement), letters(statement)), (3, 2, []))
            statement = (kind, LOW, (kind, C, A))
            self.assertEqual((parts(statement), deep(statement), letters(statement)), (5, 3, ["a", "c"]))
            statement = (kind, (kind, C, A), LOW)
            self.assertEqual((parts(statement), deep(statement), letters(statement)), (5, 3, ["a", "c"]))

    def test_equal_parts_count_as_often_as_they_stand(self):
        self.assertEqual(parts(("both", A, A)), 3)
        for levels in range(1, 9):
            statement = full(levels, "one", A)
            self.assertEqual((parts(statement), deep(statement)), (2 ** levels - 1, levels))
            self.assertEqual(letters(statement), ["a"])

    def test_the_deeper_arm_decides(self):
        for kind, on_left in itertools.product(PAIRED, (True, False)):
            statement = ladder(40, kind, on_left)
            self.assertEqual((parts(statement), deep(statement), letters(statement)), (79, 40, list("abcdefgh")))
            self.assertEqual(deep((kind, ladder(39, kind), ladder(12, kind))), 40)
            self.assertEqual(deep((kind, ladder(12, kind), ladder(39, kind))), 40)

    def test_the_greatest(self):
        statement = greatest()
        self.assertEqual((parts(statement), deep(statement)), (299, 40))
        self.assertEqual(letters(statement), sorted(counted(statement)[2]))

    def test_many(self):
        for statement in random_statements(1, 200):
            many, levels, words = counted(statement)
            self.assertEqual((parts(statement), deep(statement), letters(statement)), (many, levels, sorted(words)))

    def test_what_was_told_here_may_be_handed_on_however_deep(self):
        statement = far_negated(("both", B, A), 5000)
        self.assertEqual((parts(statement), deep(statement), letters(statement)), (10003, 5002, ["a", "b"]))

    def test_letters_of_words_that_begin_others(self):
        words = ["abc", "a", "ab", "b", "aa", "abcdefgh", "abcdefg", "ba", "a", "abc"]
        statement = LOW
        for number, word in enumerate(words):
            statement = (PAIRED[number % 3], ("letter", word), statement)
        self.assertEqual(letters(statement), ["a", "aa", "ab", "abc", "abcdefg", "abcdefgh", "b", "ba"])

    def test_letters_called_like_kinds(self):
        words = ["then", "low", "one", "letter", "both", "low"]
        statement = LOW
        for number, word in enumerate(words):
            statement = (PAIRED[number % 3], statement, ("letter", word))
        self.assertEqual(letters(statement), ["both", "letter", "low", "one", "then"])
        self.assertEqual((parts(statement), deep(statement)), (13, 7))
        self.assertEqual(letters(("then", LOW, LOW)), [])

    def test_letters_are_told_anew(self):
        statement = ("both", B, A)
        told = letters(statement)
        told.append("zz")
        told.reverse()
        self.assertEqual(letters(statement), ["a", "b"])
        self.assertIs(type(letters(LOW)), list)

    def test_kinds_of_what_is_told(self):
        for statement in random_statements(2, 20):
            self.assertIs(type(parts(statement)), int)
            self.assertIs(type(deep(statement)), int)
            self.assertTrue(all(type(word) is str for word in letters(statement)))


class Negated(unittest.TestCase):
    def test_not_and_double_not(self):
        for statement in [LOW, A, ("both", A, B), ("one", A, B), ("then", A, B), ("then", A, LOW), greatest()]:
            self.assertEqual(negated(statement), ("then", statement, ("low",)))
            self.assertEqual(negated(negated(statement)), ("then", ("then", statement, ("low",)), ("low",)))


class Once(unittest.TestCase):
    def test_none_and_one(self):
        self.assertEqual(once([]), [])
        self.assertEqual(once([A]), [A])
        self.assertEqual(once([A, A, A]), [A])

    def test_every_order_of_a_few(self):
        some = [("both", A, B), LOW, ("then", A, LOW), A, ("one", A, B), B]
        wanted = [("both", A, B), ("letter", "a"), ("letter", "b"), ("low",), ("one", A, B), ("then", A, ("low",))]
        for order in itertools.permutations(some):
            self.assertEqual(once(list(order)), wanted)

    def test_all_small_statements(self):
        simple = [LOW] + [("letter", word) for word in WORDS]
        small = simple + [(kind, one, two) for kind in PAIRED for one in simple for two in simple]
        mixed = small + small[::3]
        random.Random(3).shuffle(mixed)
        self.assertEqual(once(mixed), sorted(small))

    def test_many(self):
        for seed in range(20):
            some = random_statements(seed, 40, 25) + random_statements(seed + 100, 5)
            some = some + some[:20] + [copy.deepcopy(statement) for statement in some[:20]]
            random.Random(seed).shuffle(some)
            self.assertEqual(once(some), sorted(set(some)))

    def test_those_that_differ_at_their_very_end(self):
        base = ladder(40, "then", on_left=False)
        some = [("both", base, ("letter", word)) for word in WORDS] + [("both", base, LOW)]
        self.assertEqual(once(some + some), sorted(some))

    def test_a_long_list(self):
        some = [("one", ("letter", word), A) for word in WORDS] * 1500
        self.assertEqual(once(some), sorted(set(some)))

    def test_what_was_told_here_may_be_handed_on_however_deep(self):
        nearer, farther = far_negated(B, 4000), far_negated(A, 4001)
        told = once([farther, A, nearer, farther, nearer])
        self.assertEqual([deep(statement) for statement in told], [1, 4001, 4002])

    def test_what_came_in_stays(self):
        for some in ([B, A, B, LOW], [A, B]):
            before = list(some)
            told = once(some)
            self.assertEqual(some, before)
            self.assertIsNot(told, some)
            self.assertIs(type(told), list)

    def test_changes_show_nowhere(self):
        some = [B, A]
        told = once(some)
        some.append(LOW)
        self.assertEqual(told, [A, B])
        told.pop()
        told.append(C)
        self.assertEqual(some, [B, A, LOW])
        self.assertEqual(once([B, A]), [A, B])
        self.assertEqual(once(some), [A, B, LOW])
        self.assertIsNot(once([A, B]), once([A, B]))


if __name__ == "__main__":
    unittest.main()
