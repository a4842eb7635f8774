"""Point 18, points 3 (a), (b), (g) and (h), and what point 2 says of lists."""

import copy
import itertools
import random
import unittest

from ken.decide import decide
from ken.lines import check
from ken.statements import negated
from ken.tables import row_against
from ken.texts import read
from ken.worlds import known, look
from samples import (C, LOW, few_words, first_bad_line, in_order, known_at, own_lists, random_question,
                     random_worlds, small_statements, some_read)


SHOWN = [
    ("a", "a"), ("0", "a"), ("0", "0"), ("", "~0"), ("", "(a > a)"), ("", "(0 > a)"), ("a; b", "(a & b)"),
    ("a", "(a | b)"),
    ("b", "(a | b)"), ("(a & b)", "(b & a)"), ("(a | b)", "(b | a)"), ("a; (a > b)", "b"), ("a; ~a", "b"),
    ("", "(a > ~~a)"), ("", "(~~~a > ~a)"), ("", "~~(a | ~a)"), ("", "~~(~~a > a)"), ("", "~~(((a > b) > a) > a)"),
    ("", "~(a & ~a)"), ("(a > b); (b > c)", "(a > c)"), ("", "((a > b) > (~b > ~a))"), ("~(a | b)", "(~a & ~b)"),
    ("(~a & ~b)", "~(a | b)"), ("(~a | ~b)", "~(a & b)"), ("(a > (b > c))", "((a & b) > c)"),
    ("((a & b) > c)", "(a > (b > c))"), ("(a | b); ~a", "b"), ("(~a | b)", "(a > b)"), ("((a | ~a) > ~b)", "~b"),
    ("((a > b) > c)", "(b > c)"), ("((a > a) > b)", "b"), ("", "(((((a > b) > a) > a) > b) > b)"),
    ("(a & (b | c))", "((a & b) | (a & c))"), ("((a & b) | (a & c))", "(a & (b | c))"), ("~~a; ~~b", "~~(a & b)"),
    ("~~(a > b); ~~a", "~~b"), ("((a | b) > c)", "((a > c) & (b > c))"), ("(((a > b) > b) > b)", "(a > b)"),
    ("(a > b); ((a > b) > a)", "b"), ("(0 > a); b", "b"), ("(b > a); ((b > a) > b)", "a"),
    ("((a > 0) > a); ~a", "b"), ("(((a > b) > c) > d); (b > c); ((a > b) > c)", "d"),
]

OPEN = [
    ("", "a"), ("", "0"), ("a", "b"), ("a", "0"), ("", "(a | ~a)"), ("", "(~~a > a)"), ("", "(((a > b) > a) > a)"),
    ("", "(~a | ~~a)"), ("~(a & b)", "(~a | ~b)"), ("(a > b)", "(~a | b)"), ("", "((a > b) | (b > a))"),
    ("(~b > ~a)", "(a > b)"), ("(a > (b | c))", "((a > b) | (a > c))"), ("~~(a | b)", "(~~a | ~~b)"), ("(a | b)", "a"),
    ("(a | b)", "(a & b)"), ("((a > b) > b)", "(a | b)"), ("(a > b)", "b"), ("~~a", "a"), ("", "(a & b)"),
    ("(a > b); (b > a)", "a"), ("((a > b) > a)", "a"), ("", "(((a > b) > c) > ((a > c) > c))"),
    ("(~a > (b | c))", "((~a > b) | (~a > c))"), ("((~~a > a) > (a | ~a))", "(~a | ~~a)"), ("~0", "a"),
    ("a; b; c", "d"),
    ("((a > b) > c)", "c"), ("(((a > b) > c) > d); (b > c)", "d"),
]


class Decide(unittest.TestCase):
    def look_at(self, wishes, goal):
        """Whether the goal is shown; and what is told is looked at, by the program and in another way."""
        told = decide(wishes, goal)
        self.assertIs(type(told), tuple)
        self.assertEqual(len(told), 2)
        kind, answer = told
        self.assertIs(type(answer), list)
        self.assertLessEqual(len(answer), 20000)
        if kind == "lines":
            self.assertIs(check(answer), True)
            self.assertIsNone(first_bad_line(answer))
            self.assertEqual((answer[-1][1], answer[-1][2]), (in_order(wishes), goal))
            return True
        self.assertEqual(kind, "worlds")
        self.assertIs(look(answer), True)
        self.assertTrue(all(known(answer, wish)[0] for wish in wishes), (wishes, goal, answer))
        self.assertFalse(known(answer, goal)[0], (wishes, goal, answer))
        if len(answer) < 5:
            self.assertTrue(all(known_at(answer, 0, wish) for wish in wishes))
            self.assertFalse(known_at(answer, 0, goal))
        return False

    def test_what_is_shown(self):
        for wishes, goal in SHOWN:
            self.assertIs(self.look_at(some_read(wishes), read(goal)), True, (wishes, goal))

    def test_what_is_open(self):
        for wishes, goal in OPEN:
            self.assertIs(self.look_at(some_read(wishes), read(goal)), False, (wishes, goal))

    def test_all_small_statements(self):
        small = small_statements(["a", "b"])
        for goal in small:
            self.look_at([], goal)
            for wish in small:
                self.look_at([wish], goal)

    def test_the_one_letter_alone(self):
        # With one letter, each of these is shown from those behind it on the rows, and from no other one.
        ladder = [read(text) for text in ("0", "a", "~a", "(a | ~a)", "~~a", "(~~a > a)", "(~a | ~~a)")]
        follows = {(0, k) for k in range(7)} | {(k, k) for k in range(7)}
        follows |= {(1, 3), (1, 4), (1, 5), (1, 6), (2, 3), (2, 5), (2, 6), (3, 5), (3, 6), (4, 6)}
        for one, other in itertools.product(range(7), repeat=2):
            self.assertIs(self.look_at([ladder[one]], ladder[other]), (one, other) in follows, (one, other))

    def test_many(self):
        chance = random.Random(1)
        told = []
        for number in range(2500):
            words = chance.choice(("a", "ab", "ab", "abc", "abcd", "abcdefghijkl"))
            wishes, goal = random_question(chance, words, chance.choice((8, 12, 16, 24, 24)))
            told.append(self.look_at(wishes, goal))
        self.assertGreater(told.count(True), 500)
        self.assertGreater(told.count(False), 500)

    def test_just_as_many_parts_as_there_may_be(self):
        chance = random.Random(2)
        for sizes in ([23], [1, 23], [3, 21], [11, 13], [1, 1, 5, 7, 9, 1], [3] * 8, [5, 5, 5, 5, 3, 1], [7, 7, 9, 1],
                      [1] * 24, [5, 9, 9, 1], [21, 3]):
            for number in range(60):
                words = chance.choice(("ab", "abc", "abcdefgh"))
                *wishes, goal = [few_words(chance, size, words) for size in sizes]
                self.look_at(wishes, goal)

    def test_hard_ones(self):
        for wishes, goal in [
            ("(c | f); (b | i); (j | b); (b | (g | e)); (l | k)", "((a | d) > (f | c))"),
            ("(a | b); (c | d); (e | f); (g | h); (i | j)", "(a & c)"),
            ("~((b > (b > ~b)) | (b > (~a | (b > ((a | b) & 0)))))", "a"),
            ("", "(((((((f > e) > e) > e) & ~c) | ((e > d) | (d > c))) > e) > c)"),
            ("a; b; (((((0 | a) | a) | a) | a) > (((a | (b | a)) & a) > b))", "(b | b)"),
            ("((a > b) > c); ((b > d) > c); ((d > a) > c); ((a > d) > c)", "c"),
            ("(((a > b) > a) > a); (((b > a) > b) > b); ((a > b) > (b > a))", "(a | b)"),
            ("", "((((((((((((a > b) > c) > a) > b) > c) > a) > b) > c) > a) > b) > c) > a)"),
            ("", "~~(((a | ~a) & (b | ~b)) & (c | ~c))"),
            ("~~~~~~~~~~a", "a"), ("~~~~~~~~~~a", "~~a"), ("~~~~~~~~~a", "~a"),
        ]:
            self.look_at(some_read(wishes), read(goal))

    def test_somewhat_beyond(self):
        chance = random.Random(3)
        for number in range(60):
            self.look_at(*random_question(chance, "abcd", 32))

    def test_no_wishes(self):
        chance = random.Random(4)
        told = [self.look_at([], few_words(chance, chance.randrange(1, 24, 2), "ab")) for number in range(400)]
        self.assertIn(True, told)
        self.assertIn(False, told)

    def test_wishes_in_any_order_and_some_twice(self):
        chance = random.Random(5)
        for number in range(200):
            wishes, goal = random_question(chance, chance.choice(("ab", "abc")))
            shown = self.look_at(wishes, goal)
            for other in range(3):
                mixed = wishes + chance.choices(wishes, k=3) if wishes else []
                chance.shuffle(mixed)
                self.assertIs(self.look_at(mixed, goal), shown)

    def test_every_order(self):
        for wishes, goal in (("(a | b); (a > c); (b > c); ~d", "c"), ("(a | b); (a > c); (b > d); ~d", "d")):
            told = {self.look_at(list(order), read(goal)) for order in itertools.permutations(some_read(wishes))}
            self.assertEqual(len(told), 1)

    def test_a_wish_that_stands_there_often_counts_once(self):
        wish = read("((a > b) > ((b > c) > (a > c)))")
        self.assertIs(self.look_at([wish] * 500, read("(a | ~a)")), False)
        self.assertIs(self.look_at([read("(a & ~a)")] * 20000, read("b")), True)

    def test_long_words_and_words_like_kinds(self):
        self.assertIs(self.look_at(some_read("abcdefgh; (abcdefgh > low)"), read("low")), True)
        self.assertIs(self.look_at(some_read("low"), read("abcdefgh")), False)
        self.assertIs(self.look_at(some_read("(low | then); (one > both)"), LOW), False)

    def test_what_came_in_stays(self):
        for wishes, goal in SHOWN + OPEN:
            came = some_read(wishes) + some_read(wishes)[:1]
            before = list(came)
            decide(came, read(goal))
            self.assertEqual(came, before)

    def test_changes_show_nowhere(self):
        for wishes, goal in SHOWN + OPEN:
            came = some_read(wishes)
            kind, answer = decide(came, read(goal))
            kept = copy.deepcopy(answer)
            again = decide(came, read(goal))
            self.assertTrue(own_lists(came, answer, again))
            for number, row in enumerate(answer):
                for each in row:
                    if isinstance(each, list):
                        each.append(C)
                        each.reverse()
                self.assertEqual(answer[number + 1:], kept[number + 1:])
            answer.clear()
            came.append(LOW)
            self.assertEqual(again[1], kept)
            self.assertEqual(decide(some_read(wishes), read(goal))[0], kind)
            self.look_at(some_read(wishes), read(goal))

    def test_forms_of_what_is_told(self):
        chance = random.Random(6)
        for number in range(100):
            kind, answer = decide(*random_question(chance, "ab"))
            for row in answer:
                self.assertIs(type(row), tuple)
                self.assertEqual(len(row), 5 if kind == "lines" else 2)
                lists = (row[1], row[4]) if kind == "lines" else (row[1],)
                self.assertTrue(all(type(one) is list for one in lists))


class ThePromise(unittest.TestCase):
    def is_shown(self, wishes, goal):
        return decide(wishes, goal)[0] == "lines"

    def test_never_both(self):
        """(a), (b): lines from wishes would speak against all worlds in which these are known and the goal isn't."""
        chance = random.Random(7)
        for number in range(300):
            wishes, goal = random_question(chance, "ab", 16)
            shown = self.is_shown(wishes, goal)
            for other in range(8):
                worlds = random_worlds(chance, chance.randrange(1, 8), ("a", "b"))
                truths = [known(worlds, wish) for wish in wishes]
                for world, truth in enumerate(known(worlds, goal)):
                    if not truth and all(wish[world] for wish in truths):
                        self.assertFalse(shown, (wishes, goal, worlds))

    def test_plainly_just_where_the_double_not_is_shown(self):
        chance = random.Random(8)
        told = []
        for number in range(700):
            wishes, goal = random_question(chance, chance.choice(("a", "ab", "abc", "abcdefgh")), 20)
            plainly = row_against(wishes, goal) is None
            self.assertIs(self.is_shown(wishes, negated(negated(goal))), plainly, (wishes, goal))
            told.append(plainly)
        self.assertTrue(100 < sum(told) < 600)
        for text in ("(a | ~a)", "(((a > b) > a) > a)", "(~~a > a)", "((a > b) | (b > a))", "(~a | ~~a)"):
            self.assertFalse(self.is_shown([], read(text)))
            self.assertTrue(self.is_shown([], negated(negated(read(text)))))

    def test_one_of_the_two_from_no_wishes(self):
        chance = random.Random(9)
        told = []
        for number in range(500):
            one = few_words(chance, chance.randrange(1, 12, 2), "ab")
            other = few_words(chance, chance.randrange(1, 12, 2), "ab")
            shown = self.is_shown([], ("one", one, other))
            self.assertIs(shown, self.is_shown([], one) or self.is_shown([], other), (one, other))
            told.append(shown)
        self.assertTrue(20 < sum(told) < 480)

    def test_shown_still_with_more_wishes(self):
        chance = random.Random(10)
        many = 0
        for number in range(500):
            wishes, goal = random_question(chance, "abc", 16)
            if self.is_shown(wishes, goal):
                many += 1
                for other in range(3):
                    more = wishes + [few_words(chance, chance.randrange(1, 9, 2), "abcd")]
                    chance.shuffle(more)
                    self.assertTrue(self.is_shown(more, goal), (more, goal))
        self.assertGreater(many, 100)

    def test_what_is_shown_may_be_put_to_the_wishes(self):
        chance = random.Random(11)
        told = []
        for number in range(1200):
            wishes, goal = random_question(chance, "ab", 14)
            middle = few_words(chance, chance.randrange(1, 11, 2), "ab")
            if self.is_shown(wishes, middle):
                shown = self.is_shown(wishes, goal)
                self.assertIs(self.is_shown(wishes + [middle], goal), shown, (wishes, middle, goal))
                told.append(shown)
        self.assertTrue(20 < sum(told) < len(told) - 20)


if __name__ == "__main__":
    unittest.main()
