"""Points 27 and 28, and point 3 (f)."""

import random
import unittest

from ken.decide import decide
from ken.lines import check
from ken.places import placed, swapped
from ken.statements import parts
from ken.texts import read, shown
from ken.worlds import known
from samples import (A, B, C, LOW, PAIRED, few_words, first_bad_line, full, greatest, in_order, ladder, own_lists,
                     random_statement, random_worlds)

# A statement, a word, what is put in its place, and what comes of it.
PLACED = [
    ("a", "a", "b", "b"), ("a", "b", "c", "a"), ("0", "a", "b", "0"), ("a", "a", "a", "a"), ("a", "a", "0", "0"),
    ("(a & b)", "a", "c", "(c & b)"), ("(a & b)", "b", "c", "(a & c)"), ("(a | b)", "a", "c", "(c | b)"),
    ("(a > b)", "b", "c", "(a > c)"), ("~a", "a", "c", "~c"), ("~a", "a", "~a", "~~a"), ("(a > b)", "b", "0", "~a"),
    ("((a & a) | (a > a))", "a", "(b & c)", "(((b & c) & (b & c)) | ((b & c) > (b & c)))"),
    ("(a & (b | a))", "a", "(a > b)", "((a > b) & (b | (a > b)))"), ("(a & (b | c))", "d", "0", "(a & (b | c))"),
    # Only the whole word, and words as kinds are called.
    ("(a & ab)", "a", "c", "(c & ab)"), ("(ab & abc)", "ab", "c", "(c & abc)"), ("(low & 0)", "low", "a", "(a & 0)"),
    ("(both & (one | then))", "one", "a", "(both & (a | then))"), ("(letter & a)", "letter", "b", "(b & a)"),
    ("abcdefgh", "abcdefgh", "(a & abcdefgh)", "(a & abcdefgh)"),
]

# Statements and words for swapped: the word under each kind of statement, on both sides of "if", often and never.
SWAPPED = [
    ("a", "a"), ("b", "a"), ("0", "a"), ("(a & b)", "a"), ("(b & a)", "a"), ("(a | b)", "a"), ("(b | a)", "a"),
    ("(a > b)", "a"), ("(b > a)", "a"), ("~a", "a"), ("~~a", "a"), ("~~~a", "a"), ("(a & a)", "a"), ("(a | a)", "a"),
    ("(a > a)", "a"), ("((a > b) > c)", "a"), ("(((a > b) > c) > a)", "a"), ("((b > a) > (a > c))", "a"),
    ("((a & ~a) | ((a > a) > (a | b)))", "a"), ("(b & (c | ~b))", "a"), ("(~(a & b) | (b > (a & c)))", "a"),
    ("(((a | a) > (a & a)) > ((a > 0) & (0 > a)))", "a"), ("(a & ab)", "ab"), ("((a > b) > (b > a))", "b"),
]

# Statements that stand there, one and other.
PAIRS = [
    ("b", "c"), ("a", "b"), ("b", "a"), ("a", "a"), ("0", "b"), ("b", "0"), ("0", "0"), ("b", "b"), ("d", "~d"),
    ("(b & c)", "(c & b)"), ("~~b", "b"), ("(a > b)", "(b > a)"), ("(b | a)", "(b | ~a)"), ("b", "(a > b)"),
    ("(b > c)", "(b > c)"),
]


class Placed(unittest.TestCase):
    def test_by_hand(self):
        for statement, word, other, told in PLACED:
            self.assertEqual(placed(read(statement), word, read(other)), read(told))

    def test_many(self):
        # With a text that has no other letters than the word in brackets, it is the text that is replaced.
        chance = random.Random(1)
        for number in range(300):
            statement = few_words(chance, chance.randrange(1, 60, 2), "abc")
            other = few_words(chance, chance.randrange(1, 9, 2), "abcd")
            told = "".join(shown(other) if sign == "a" else sign for sign in shown(statement))
            self.assertEqual(placed(statement, "a", other), read(told))

    def test_great_ones(self):
        great = greatest()
        self.assertEqual(placed(great, "zz", A), great)
        self.assertEqual(placed(full(8, "one", A), "a", great), full(8, "one", great))
        deep = ladder(20000, "then")
        self.assertEqual(parts(placed(deep, "a", ("both", A, A))), parts(deep) + 2 * 2500)


class Swapped(unittest.TestCase):
    def look_at(self, statement, word, one, other):
        """Look at the lines, by the program and in another way."""
        lines = swapped(statement, word, one, other)
        self.assertIs(type(lines), list)
        self.assertIs(check(lines), True)
        self.assertIsNone(first_bad_line(lines))
        self.assertLessEqual(len(lines), 6 * parts(statement))
        ifs = [("then", one, other), ("then", other, one)]
        self.assertEqual(lines[-1][1], in_order(ifs + [placed(statement, word, one)]))
        self.assertEqual(lines[-1][2], placed(statement, word, other))
        self.assertTrue(own_lists(lines))
        return lines

    def test_by_hand(self):
        for statement, word in SWAPPED:
            for one, other in PAIRS:
                self.look_at(read(statement), word, read(one), read(other))

    def test_with_one_it_is_one_of_the_ifs(self):
        for statement, one, other in (("(a > c)", "b", "c"), ("(c > a)", "b", "c"), ("(b > a)", "a", "b"),
                                      ("(a > b)", "a", "b"), ("(b > a)", "b", "b"), ("(a > a)", "b", "b"),
                                      ("(a > ~b)", "b", "~b"), ("(a > (b & c))", "c", "(b & c)"),
                                      ("((b & c) > a)", "c", "(b & c)")):
            lines = self.look_at(read(statement), "a", read(one), read(other))
            self.assertLess(len(lines[-1][1]), 3)

    def test_the_same_is_asked_again(self):
        for one, other in PAIRS:
            first = self.look_at(read("((a > b) > (a | ~a))"), "a", read(one), read(other))
            for line in first:
                line[1].append(LOW)
                line[4].append(7)
            first.clear()
            self.look_at(read("((a > b) > (a | ~a))"), "a", read(one), read(other))

    def test_many(self):
        chance = random.Random(2)
        for number in range(400):
            statement = few_words(chance, chance.randrange(1, 50, 2), "ab")
            one, other = [few_words(chance, chance.choice((1, 1, 3, 7)), "abc") for each in range(2)]
            self.look_at(statement, chance.choice(("a", "a", "b", "c")), one, other)

    def test_great_ones(self):
        chance = random.Random(3)
        for kind in PAIRED:
            self.look_at(full(8, kind, A), "a", B, ("both", C, A))
            self.look_at(ladder(40, kind), "a", ("one", B, C), LOW)
            self.look_at(ladder(40, kind, False), "a", A, B)
        self.look_at(greatest(), "a", B, C)
        self.look_at(("both", A, ("then", A, B)), "a", greatest(), random_statement(chance, 299))
        self.look_at(("one", ("then", A, LOW), A), "a", greatest(), greatest())

    def test_all_told_by_them_holds_in_worlds(self):
        chance = random.Random(4)
        for number in range(60):
            statement = few_words(chance, chance.randrange(1, 12, 2), "ab")
            lines = swapped(statement, "a", few_words(chance, 3, "bc"), few_words(chance, 3, "bc"))
            worlds = random_worlds(chance, 6)
            for rule, wishes, goal, on, leans in lines:
                truths = [known(worlds, wish) for wish in wishes]
                for world, truth in enumerate(known(worlds, goal)):
                    self.assertTrue(truth or not all(each[world] for each in truths))

    def test_what_is_told_is_shown(self):
        for statement, word in SWAPPED:
            whole = read(statement)
            if parts(whole) <= 9:
                wishes = [read("(b > c)"), read("(c > b)"), placed(whole, word, B)]
                self.assertEqual(decide(wishes, placed(whole, word, C))[0], "lines")


if __name__ == "__main__":
    unittest.main()
