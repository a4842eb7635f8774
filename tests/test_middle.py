"""Point 29, point 3 (e), and what point 2 says of lists."""

import copy
import itertools
import random
import unittest

from ken.decide import decide
from ken.errors import NotShown
from ken.lines import check
from ken.middle import middle
from ken.texts import read
from samples import (A, B, C, LOW, counted, few_words, first_bad_line, in_order, known_at, own_lists, random_question,
                     random_worlds, refused_with, small_statements, some_read)

# Left wishes, right wishes, a goal that is shown.
SHOWN = [
    # No left ones, no right ones, none at all.
    ("", "", "(a > a)"), ("", "", "~0"), ("", "a", "a"), ("a", "", "a"), ("0", "", "a"), ("", "0", "a"),
    ("0", "0", "0"), ("a", "", "(a | b)"), ("", "a", "(a | b)"), ("a; ~a", "", "b"), ("", "a; ~a", "b"),
    ("(a & b)", "", "a"),
    # The goal among the wishes, wishes twice and on both sides.
    ("a", "a", "a"), ("a; a", "a; a", "a"), ("a; b", "b; c", "b"), ("a; a; a", "", "a"), ("", "a; a", "a"),
    ("(a > b); (a > b)", "a; (a > b)", "b"), ("(a & b); a", "a; (a & b)", "(b & a)"), ("0", "0; a", "b"),
    # Each rule, with its wish on the left and on the right.
    ("a; b", "", "(a & b)"), ("a", "b", "(a & b)"), ("b", "a", "(a & b)"), ("a", "c", "(a & (c & a))"),
    ("a", "b", "(b | c)"), ("a", "b", "(c | a)"), ("b", "(b > c)", "(a > c)"), ("(a > b)", "", "(a > b)"),
    ("(a & b)", "(b > c)", "c"), ("(b > c)", "(a & b)", "c"), ("(a | b)", "(a > c); (b > c)", "c"),
    ("(a > c); (b > c)", "(a | b)", "c"), ("(a | a)", "b", "(a & b)"), ("(a | b)", "~a", "b"), ("~a", "(a | b)", "b"),
    ("(a | ~c)", "c", "a"), ("(a | b)", "", "(b | a)"), ("", "(a | b)", "(b | a)"), ("(a | 0)", "", "a"),
    ("a", "(a > b)", "b"), ("(a > b)", "a", "b"), ("a; (a > b)", "(b > c)", "c"), ("(b > c)", "a; (a > b)", "c"),
    ("a; (b > c)", "(a > b)", "c"), ("(a > b)", "a; (b > c)", "c"), ("(a > b); (c > d)", "a; (b > c)", "d"),
    ("a; (b > c); d", "(a > b); (c > (d > b))", "b"), ("~a", "a", "b"), ("a", "~a", "b"), ("a", "~a", "0"),
    ("((a & b) > c)", "a; b", "c"), ("a; b", "((a & b) > c)", "c"), ("a", "((a & b) > c); b", "c"),
    ("((a | b) > c)", "b", "c"), ("b", "((a | b) > c)", "c"), ("(0 > a); b", "(b > c)", "c"), ("b", "(0 > a)", "b"),
    ("((a > b) > c)", "(a > b)", "c"), ("(a > b)", "((a > b) > c)", "c"), ("((a > a) > b)", "", "b"),
    ("", "((a > a) > b)", "b"), ("((a > b) > c)", "b", "c"), ("b", "((a > b) > c)", "c"),
    ("((a > b) > c)", "", "(b > c)"),
    ("((a > b) > b); (b > d)", "(a > d)", "~~d"), ("(a > d)", "((a > b) > b); (b > d)", "~~d"),
    ("((a > b) > c); (d > b)", "(a > d)", "c"), ("(a > d)", "((a > b) > c); (d > b)", "c"),
    ("~~a", "(a > b)", "~~b"), ("(a > b)", "~~a", "~~b"), ("(~a > b)", "~b", "~~a"), ("~b", "(~a > b)", "~~a"),
    ("((a > c) > (b & d))", "(a > (c & b))", "(d | a)"), ("(a > (c & b))", "((a > c) > (b & d))", "(d | a)"),
    # One of them beside others that play no part.
    ("x; (x & y)", "a", "a"), ("a", "x; (x & y); ~z", "a"), ("x; y; a", "(a > b); z", "b"),
]

OPEN = [
    ("", "", "a"), ("", "", "0"), ("a", "", "b"), ("", "a", "b"), ("a", "b", "c"), ("", "", "(a | ~a)"),
    ("~~a", "", "a"), ("", "~~a", "a"), ("(a > b)", "(b > c)", "c"), ("(a > b)", "b", "a"), ("((a > b) > a)", "", "a"),
    ("a; a", "a", "b"),
    ("(a | b)", "(a > c)", "c"), ("", "", "(~~a > a)"), ("(a > (b | c))", "", "((a > b) | (a > c))"), ("~0", "", "0"),
]


class Middle(unittest.TestCase):
    def look_at(self, left, right, goal):
        """The middle; all that is told is looked at, by the program and in another way."""
        before = (list(left), list(right))
        told = middle(left, right, goal)
        self.assertEqual((left, right), before)
        self.assertIs(type(told), tuple)
        found, ones, others = told
        for lines, wishes, end in ((ones, left, found), (others, right + [found], goal)):
            self.assertIs(type(lines), list)
            self.assertLessEqual(len(lines), 20000)
            self.assertIs(check(lines), True)
            self.assertIsNone(first_bad_line(lines))
            self.assertEqual((lines[-1][1], lines[-1][2]), (in_order(wishes), end))
        on_left = set().union(*[counted(wish)[2] for wish in left])
        on_right = set().union(*[counted(wish)[2] for wish in right + [goal]])
        self.assertLessEqual(counted(found)[2], on_left & on_right, (left, right, goal, found))
        self.assertTrue(own_lists(left, right, told))
        return found

    def test_what_is_shown(self):
        for left, right, goal in SHOWN:
            self.look_at(some_read(left), some_read(right), read(goal))

    def test_what_is_open(self):
        for left, right, goal in OPEN:
            lists = some_read(left), some_read(right)
            refused_with(self, NotShown, middle, *lists, read(goal))
            self.assertEqual(lists, (some_read(left), some_read(right)))

    def test_what_must_stand_in_the_middle(self):
        # What these say on the left is just this one of the common letters, up to what is shown from it and shows it.
        for left, right, goal, told in (
                ("(a & b)", "(b > c)", "c", "b"), ("(a > b); a", "(b > c)", "c", "b"),
                ("(b > c)", "(a & b)", "c", "(b > c)"),
                ("(a | b)", "(a > c); (b > c)", "c", "(a | b)"), ("a; ~a", "b", "c", "0"), ("a", "b", "b", "~0")):
            found = self.look_at(some_read(left), some_read(right), read(goal))
            self.assertEqual(decide([found], read(told))[0], "lines", found)
            self.assertEqual(decide([read(told)], found)[0], "lines", found)

    def test_without_common_letters_it_has_none(self):
        for left, right, goal in (("", "a", "a"), ("a", "b", "b"), ("(a & ~a)", "b", "c"), ("a", "", "(b > b)")):
            self.assertEqual(counted(self.look_at(some_read(left), some_read(right), read(goal)))[2], set())

    def test_small_ones(self):
        chance = random.Random(1)
        small = small_statements(["a", "b"])
        shown = 0
        for number in range(3000):
            left, right, goal = [chance.choice(small)], [chance.choice(small)], chance.choice(small)
            shown += self.look_at_any(left, right, goal)
        self.assertTrue(500 < shown < 2500)

    def look_at_any(self, left, right, goal):
        """Whether the goal is shown; the middle is looked at, or refused, as decide tells."""
        if decide(left + right, goal)[0] == "worlds":
            refused_with(self, NotShown, middle, left, right, goal)
            return False
        self.look_at(left, right, goal)
        return True

    def test_many(self):
        chance = random.Random(2)
        shown = 0
        for number in range(2500):
            words = chance.choice(("a", "ab", "ab", "abc", "abcd", "abcdefgh"))
            wishes, goal = random_question(chance, words, chance.choice((12, 18, 24, 24)))
            sides = [chance.random() < 0.5 for wish in wishes]
            left = [wish for wish, side in zip(wishes, sides) if side]
            right = [wish for wish, side in zip(wishes, sides) if not side]
            shown += self.look_at_any(left, right, goal)
        self.assertGreater(shown, 1000)

    def test_every_way_to_part_them(self):
        for texts, goal in (("(a > b); (b > c); a; (c > d)", "d"), ("(a | b); ~a; (b > c)", "c"),
                            ("(a & (b | c)); ~b", "c"), ("((a > b) > c); (d > b); (a > d)", "c"),
                            ("((a & b) > c); (d > a); (d > b); d", "c"),
                            ("((a | b) > c); (d > b); ~~d", "~~c"), ("~~(a > b); ~~a; ~b", "c")):
            wishes = some_read(texts)
            for sides in itertools.product(("left", "right", "both"), repeat=len(wishes)):
                left = [wish for wish, side in zip(wishes, sides) if side != "right"]
                right = [wish for wish, side in zip(wishes, sides) if side != "left"]
                self.look_at(left, right, read(goal))
                self.look_at(left[::-1] + left[:1], right[::-1] + right[-1:], read(goal))

    def test_hard_ones(self):
        for left, right, goal in (
                ("(c | (0 | d)); (c | a); (c | d); (b | c)", "(d | ((d | c) > b))", "(a | c)"),
                ("(a | (0 | b)); (a | c); (d | (0 | c))", "(d | (c | (c > a)))", "(b | a)"),
                ("(b | (a | c)); (c | a); (a | (c | 0)); (0 | b)", "(c > c)", "((a | b) & b)"),
                ("(0 | c); (c | b); (a | b)", "(a | (b | c)); (a | (c > c))", "((b & c) | a)"),
                ("((b & b) > (b > (0 & 0))); (a > b)", "((a & b) | b)", "((b | a) & (a & 0))"),
                ("(b & a)", "((b | a) > (a > b)); (((a | b) | b) > (b > (a > b)))", "(a & b)")):
            self.look_at(some_read(left), some_read(right), read(goal))

    def test_all_told_by_them_holds_in_worlds(self):
        chance = random.Random(3)
        for left, right, goal in SHOWN:
            found, ones, others = middle(some_read(left), some_read(right), read(goal))
            worlds = random_worlds(chance, 5)
            for wishes, end in ((some_read(left), found), (some_read(right) + [found], read(goal))):
                for world in range(5):
                    if all(known_at(worlds, world, wish) for wish in wishes):
                        self.assertTrue(known_at(worlds, world, end))

    def test_changes_show_nowhere(self):
        for left, right, goal in SHOWN:
            lists = some_read(left), some_read(right)
            told = middle(*lists, read(goal))
            kept = copy.deepcopy(told)
            again = middle(*lists, read(goal))
            self.assertTrue(own_lists(lists, told, again))
            for number in (1, 2):
                for at, line in enumerate(told[number]):
                    line[1].extend([C, LOW])
                    line[4].append(9)
                    self.assertEqual(told[number][at + 1:], kept[number][at + 1:])
                told[number].clear()
            lists[0].append(A)
            lists[1].append(B)
            self.assertEqual(again, kept)
            self.look_at(some_read(left), some_read(right), read(goal))

    def test_just_as_many_parts_as_there_may_be(self):
        chance = random.Random(4)
        shown = 0
        for sizes in ([23], [1, 23], [3, 21], [11, 13], [1, 1, 5, 7, 9, 1], [3] * 8, [5, 5, 5, 5, 3, 1], [7, 7, 9, 1],
                      [1] * 24, [5, 9, 9, 1], [21, 3]):
            for number in range(40):
                words = chance.choice(("a", "ab", "abc"))
                *wishes, goal = [few_words(chance, size, words) for size in sizes]
                at = chance.randrange(len(wishes) + 1)
                shown += self.look_at_any(wishes[:at], wishes[at:], goal)
        self.assertGreater(shown, 100)

    def test_somewhat_beyond(self):
        chance = random.Random(5)
        for number in range(60):
            wishes, goal = random_question(chance, "abc", 30)
            at = chance.randrange(len(wishes) + 1)
            self.look_at_any(wishes[:at], wishes[at:], goal)


if __name__ == "__main__":
    unittest.main()
