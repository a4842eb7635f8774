"""Point 3, the promise over the whole: what all the modules tell of the same wishes and goals."""

import random
import unittest

from ken.decide import decide
from ken.desk import Desk
from ken.errors import KenError, Large, NotShown
from ken.kinds import kind
from ken.lines import check
from ken.making import term_of
from ken.middle import middle
from ken.places import placed, swapped
from ken.statements import letters, negated, parts
from ken.tables import plain, row_against
from ken.texts import read, shown
from ken.turnings import brought
from ken.worlds import known, later, look
from samples import LOW, come_to, few_words, in_order, random_lines, random_question, random_worlds


def asked(wishes, goal, word="ask"):
    """What a desk with these wishes answers of the goal."""
    desk = Desk()
    for wish in in_order(wishes):
        desk.say(f"wish {shown(wish)}")
    return desk.say(f"{word} {shown(goal)}")


def questions(seed, many, total=24):
    """Wishes and goals, few and many letters, with chance beside them."""
    chance = random.Random(seed)
    for number in range(many):
        words = chance.choice(("a", "ab", "ab", "abc", "abcdefgh"))
        yield (chance, *random_question(chance, words, total))


def hold(test, worlds, wishes, goal):
    """At each world at which all wishes are known, the goal is known."""
    truths = [known(worlds, wish) for wish in wishes]
    for world, truth in enumerate(known(worlds, goal)):
        test.assertTrue(truth or not all(each[world] for each in truths), (worlds, wishes, goal, world))


class TheWhole(unittest.TestCase):
    def test_lines_or_worlds(self):
        """(a): and the desk, texts and the middle tell the same."""
        told = []
        for chance, wishes, goal in questions(1, 500):
            answer, lines = decide([read(shown(wish)) for wish in wishes], read(shown(goal)))
            self.assertEqual(asked(wishes, goal), {"lines": "shown", "worlds": "open"}[answer])
            told.append(answer)
            if answer == "lines":
                self.assertIs(check(lines), True)
                self.assertEqual((lines[-1][1], lines[-1][2]), (in_order(wishes), goal))
            else:
                self.assertIs(look(lines), True)
                self.assertTrue(all(known(lines, wish)[0] for wish in wishes))
                self.assertFalse(known(lines, goal)[0])
                with self.assertRaises(NotShown):
                    middle(wishes[::2], wishes[1::2], goal)
        self.assertTrue(100 < told.count("lines") < 400)

    def test_what_lines_tell_holds_wherever_one_looks(self):
        """(b): of each line, whoever told it, at each world of worlds told for others."""
        worlds = [told[1] for told in (decide(wishes, goal) for chance, wishes, goal in questions(2, 60))
                  if told[0] == "worlds"]
        for chance, wishes, goal in questions(3, 120):
            told, lines = decide(wishes, goal)
            if told == "lines":
                found, ones, others = middle(wishes[::2], wishes[1::2], goal)
                some = lines + ones + others
                for rule, each, end, on, leans in chance.sample(some, min(8, len(some))):
                    hold(self, chance.choice(worlds), each, end)
                    hold(self, random_worlds(chance, 6), each, end)
        chance = random.Random(4)
        for number in range(60):
            for rule, each, end, on, leans in random_lines(chance, 10):
                hold(self, random_worlds(chance, 5), each, end)

    def test_what_is_known_stays_known(self):
        """(c): in worlds that were told, and in others."""
        for chance, wishes, goal in questions(5, 150):
            told, worlds = decide(wishes, goal)
            if told == "lines":
                worlds = random_worlds(chance, 6)
            for statement in wishes + [goal, negated(goal)]:
                truths = known(worlds, statement)
                for world in range(len(worlds)):
                    self.assertTrue(not truths[world] or all(truths[one] for one in later(worlds, world)))

    def test_terms(self):
        """(d): a term of lines has the goal as its kind, also when it is brought to rest."""
        many = 0
        for chance, wishes, goal in questions(6, 500, 16):
            told, lines = decide(wishes, goal)
            if told == "worlds" or len(lines) > 25 or max(come_to(lines, len(lines) - 1)) > 20:
                continue
            term = term_of(lines)
            self.assertEqual(kind(term, in_order(wishes)), goal)
            try:
                self.assertEqual(kind(brought(term), in_order(wishes)), goal)
                many += 1
            except Large:
                pass
        self.assertGreater(many, 100)

    def test_the_middle(self):
        """(e): it has common letters alone, and stands between the two sides also by decide, worlds and tables."""
        many = 0
        for chance, wishes, goal in questions(7, 500, 16):
            left = [wish for wish in wishes if chance.random() < 0.5]
            right = [wish for wish in wishes if wish not in left]
            if asked(wishes, goal) == "open":
                continue
            found, ones, others = middle(left, right, goal)
            self.assertLessEqual(set(letters(found)), {word for wish in left for word in letters(wish)})
            self.assertLessEqual(set(letters(found)), {word for wish in right + [goal] for word in letters(wish)})
            self.assertIsNone(row_against(left, found))
            self.assertIsNone(row_against(right + [found], goal))
            worlds = random_worlds(chance, 6)
            hold(self, worlds, left, found)
            hold(self, worlds, right + [found], goal)
            if parts(found) <= 7:
                many += 1
                self.assertEqual(asked(left, found), "shown")
                self.assertEqual(decide(right + [found], goal)[0], "lines")
        self.assertGreater(many, 100)

    def test_one_for_the_other(self):
        """(f): what swapped lines show is shown by decide, too, and its term has the goal as its kind."""
        chance = random.Random(8)
        for number in range(150):
            statement = few_words(chance, chance.choice((1, 3, 5)), "ab")
            one, other = [few_words(chance, chance.choice((1, 1, 3)), "bc") for each in range(2)]
            lines = swapped(statement, "a", one, other)
            wishes, goal = lines[-1][1:3]
            self.assertIs(check(lines), True)
            self.assertEqual(goal, placed(statement, "a", other))
            hold(self, random_worlds(chance, 6), wishes, goal)
            if sum(parts(each) for each in wishes + [goal]) <= 24:
                self.assertEqual(asked(wishes, goal), "shown")
            self.assertEqual(kind(term_of(lines), wishes), goal)

    def test_plainly(self):
        """(g): by tables just where the double-not is shown; and the desk tells the same."""
        told = []
        for chance, wishes, goal in questions(9, 500, 20):
            row = row_against(wishes, goal)
            answer = asked(wishes, goal, "plain")
            self.assertEqual(answer == "yes", row is None)
            self.assertEqual(asked(wishes, negated(negated(goal))) == "shown", row is None)
            if row is not None:
                words = answer.split(" ")[1:]
                self.assertTrue(all(plain(wish, words) for wish in wishes))
                self.assertFalse(plain(goal, words))
                self.assertEqual(asked(wishes, goal), "open")
            told.append(row is None)
        self.assertTrue(100 < sum(told) < 400)

    def test_one_of_the_two(self):
        """(h): from no wishes."""
        chance = random.Random(10)
        told = []
        for number in range(400):
            one, other = [few_words(chance, chance.randrange(1, 12, 2), "ab") for each in range(2)]
            answers = [asked([], each) for each in (("one", one, other), one, other)]
            self.assertEqual(answers[0] == "shown", "shown" in answers[1:])
            told.append(answers[0])
        self.assertTrue(20 < told.count("shown") < 380)

    def test_more_wishes(self):
        """(h): still shown with more wishes; nothing more is shown with what is shown."""
        told = []
        for chance, wishes, goal in questions(11, 400, 14):
            answer = asked(wishes, goal)
            more = few_words(chance, chance.choice((1, 3, 5)), "abc")
            if answer == "shown":
                self.assertEqual(asked(wishes + [more], goal), "shown")
                self.assertEqual(asked(wishes + [goal], more), asked(wishes, more))
            if asked(wishes, more) == "shown":
                self.assertEqual(asked(wishes + [more], goal), answer)
                told.append(answer)
        self.assertTrue(20 < told.count("shown") < len(told) - 20)

    def test_the_middle_goes_on(self):
        """What was told may be handed on: a middle as a wish, its lines to the terms, however great they are."""
        chance = random.Random(12)
        left, right = [read("(a | (b | c))"), read("(c > b)")], [read("(a > d)"), read("(b > d)")]
        found, ones, others = middle(left, right, read("d"))
        desk = Desk()
        self.assertEqual(desk.say(f"wish {shown(found)}"), "ok")
        self.assertEqual(desk.say("wishes"), shown(read(shown(found))))
        for lines in (ones, others):
            self.assertEqual(kind(term_of(lines), lines[-1][1]), lines[-1][2])
            for rule, wishes, goal, on, leans in lines:
                hold(self, random_worlds(chance, 5, ("a", "b", "c", "d")), wishes, goal)

    def test_each_refusal_is_a_ken_error(self):
        for row in ("", "wish", "wish (", "drop a", "plain ~~~~~~~~~~~~~~a", "ask ~~~~~~~~~~~~~~a"):
            with self.assertRaises(KenError):
                Desk().say(row)
        self.assertEqual(Desk().say(f"ask {shown(negated(LOW))}"), "shown")


if __name__ == "__main__":
    unittest.main()
