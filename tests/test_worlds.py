"""Points 8, 9 and 10, point 3 (c), and what point 2 says of lists."""

import copy
import random
import unittest

from ken import errors
from ken.errors import KenError, NoWorlds
from ken.statements import negated
from ken.worlds import known, later, look
from samples import (A, B, C, LOW, PAIRED, greatest, is_later, known_at, ladder, random_statement, random_worlds,
                     row_of_worlds, small_statements)

ALONE = [(None, [])]
ROW = [(None, []), (0, ["a"]), (1, ["a", "b"])]
#      0
#    1   2
#   3 4   5
TREE = [(None, []), (0, ["a"]), (0, ["b"]), (1, ["a", "b"]), (1, ["a", "c"]), (2, ["b"])]
GOOD = [
    ALONE,
    [(None, ["a"])],
    [(None, ["abcdefgh", "b", "zzzzzzzz"])],
    [(None, ["a", "aa", "ab", "b"])],
    ROW,
    TREE,
    [(None, ["a"]), (0, ["a"]), (0, ["a"]), (0, ["a"])],
    [(None, ["b"]), (0, ["a", "b", "c"]), (1, ["a", "b", "c", "d"]), (0, ["aa", "b"])],
    row_of_worlds(1500, {"a": 3, "b": 700, "c": 1499}),
]

# Worlds, and the number of the first bad one.
BAD = [
    # none at all
    ([], 0),
    # before of world 0
    ([(0, [])], 0), ([(1, [])], 0), ([(-1, [])], 0), ([(0, []), (0, [])], 0), ([(1, []), (0, [])], 0),
    # before of another one: None, its own number, beyond it, far beyond, below 0
    ([(None, []), (None, [])], 1), ([(None, []), (0, []), (None, [])], 2),
    ([(None, []), (1, [])], 1), ([(None, []), (0, []), (2, [])], 2),
    ([(None, []), (2, []), (0, [])], 1), ([(None, []), (2, [])], 1), ([(None, []), (0, []), (3, []), (0, [])], 2),
    ([(None, []), (20000, [])], 1), ([(None, []), (10 ** 299, [])], 1),
    ([(None, []), (-1, [])], 1), ([(None, []), (0, []), (-1, [])], 2), ([(None, []), (0, []), (-2, [])], 2),
    ([(None, []), (-10 ** 299, [])], 1),
    # letters not sorted, one twice
    ([(None, ["b", "a"])], 0), ([(None, ["aa", "a"])], 0), ([(None, ["a", "c", "b"])], 0),
    ([(None, []), (0, ["b", "a"])], 1), ([(None, ["a"]), (0, ["b", "a"])], 1),
    ([(None, ["a", "a"])], 0), ([(None, []), (0, ["a", "b", "b"])], 1), ([(None, ["a"]), (0, ["a", "a"])], 1),
    # one that is no word
    ([(None, [""])], 0), ([(None, ["", "a"])], 0), ([(None, ["A"])], 0), ([(None, ["abcdefghi"])], 0),
    ([(None, ["aB"])], 0), ([(None, ["a1"])], 0), ([(None, ["0"])], 0), ([(None, ["a b"])], 0), ([(None, [" "])], 0),
    ([(None, ["a "])], 0), ([(None, ["a\n"])], 0), ([(None, ["\ta"])], 0), ([(None, ["~a"])], 0),
    ([(None, ["a_b"])], 0), ([(None, ["`"])], 0), ([(None, ["{"])], 0), ([(None, ["a" * 3000])], 0),
    ([(None, []), (0, ["a", "b-"])], 1), ([(None, []), (0, ["a", "b", "zzzzzzzzz"])], 1),
    # one of the world before left out
    ([(None, ["a"]), (0, [])], 1), ([(None, ["a"]), (0, ["b"])], 1), ([(None, ["a", "b"]), (0, ["a"])], 1),
    ([(None, ["a", "b"]), (0, ["b"])], 1), ([(None, ["ab"]), (0, ["a", "b"])], 1),
    ([(None, []), (0, ["a"]), (1, ["b"])], 2), ([(None, []), (0, ["a"]), (0, ["b"]), (2, ["a"])], 3),
    ([(None, ["a"]), (0, ["a", "b"]), (1, ["a", "c"])], 2),
    # two bad ones, the first one is told
    ([(None, ["b", "a"]), (5, [])], 0), ([(None, []), (1, []), (0, ["A"])], 1), ([(None, []), (0, ["A"]), (2, [])], 1),
    ([(0, []), (None, [])], 0), ([(None, ["a"]), (0, []), (9, [])], 1), ([(None, []), (-1, []), (-1, [])], 1),
    # a world whose world before is a bad one; the bad one is told
    ([(None, []), (0, ["b", "a"]), (1, ["a", "b"])], 1), ([(None, ["A"]), (0, ["a"])], 0),
    ([(None, []), (1, ["a"]), (1, ["a"])], 1), ([(None, []), (7, ["a"]), (1, [])], 1),
]


class Look(unittest.TestCase):
    def world_of(self, worlds):
        with self.assertRaises(NoWorlds, msg=repr(worlds)[:200]) as caught:
            look(worlds)
        self.assertIs(type(caught.exception.world), int)
        return caught.exception.world

    def test_good_ones(self):
        for worlds in GOOD:
            self.assertIs(look(worlds), True)

    def test_bad_ones(self):
        for worlds, world in BAD:
            self.assertEqual(self.world_of(worlds), world, repr(worlds)[:200])

    def test_what_follows_a_bad_one_changes_nothing(self):
        for worlds, world in BAD:
            for more in ([(None, [])], [(0, ["z"])], [(0, ["B"])], [(-1, [])]):
                if worlds:
                    self.assertEqual(self.world_of(worlds[:world + 1] + more), world)

    def test_a_bad_one_anywhere(self):
        chance = random.Random(1)
        for number in range(200):
            worlds = random_worlds(chance, chance.randrange(2, 30))
            self.assertIs(look(worlds), True)
            at = chance.randrange(1, len(worlds))
            before, words = worlds[at]
            broken = chance.choice([(None, words), (at, words), (at + 1, words), (-1, words), (before, words + ["A"]),
                                    (before, words + ["a", "a"]), (before, ["zz"] + words + ["b"])])
            self.assertEqual(self.world_of(worlds[:at] + [broken] + worlds[at + 1:]), at)

    def test_long_rows(self):
        worlds = row_of_worlds(20000, {"a": 3, "b": 19999})
        self.assertIs(look(worlds), True)
        self.assertEqual(self.world_of(worlds[:-1] + [(19998, ["b"])]), 19999)
        self.assertEqual(self.world_of(worlds[:-1] + [(19999, ["a", "b"])]), 19999)

    def test_kind_of_the_refusal(self):
        for worlds, world in BAD[:4]:
            with self.assertRaises(KenError) as caught:
                look(worlds)
            self.assertIsInstance(caught.exception, ValueError)
            for name in ("NoText", "NoRule", "NoLine", "NoKind", "NoTurning", "Large", "NotShown", "Twice", "NoWish",
                         "NoRow"):
                self.assertNotIsInstance(caught.exception, getattr(errors, name))

    def test_what_came_in_stays(self):
        for worlds in GOOD:
            before = copy.deepcopy(worlds)
            self.assertEqual([look(worlds), look(worlds)], [True, True])
            self.assertEqual(worlds, before)
        for worlds, world in BAD:
            before = copy.deepcopy(worlds)
            self.assertEqual([self.world_of(worlds), self.world_of(worlds)], [world, world])
            self.assertEqual(worlds, before)


class Later(unittest.TestCase):
    def test_alone(self):
        self.assertEqual(later(ALONE, 0), [0])

    def test_a_row(self):
        self.assertEqual([later(ROW, world) for world in range(3)], [[0, 1, 2], [1, 2], [2]])

    def test_a_tree(self):
        self.assertEqual([later(TREE, world) for world in range(6)],
                         [[0, 1, 2, 3, 4, 5], [1, 3, 4], [2, 5], [3], [4], [5]])
        crossed = [(None, []), (0, []), (0, []), (1, []), (2, []), (3, []), (0, []), (4, [])]
        self.assertEqual([later(crossed, world) for world in (0, 1, 2, 3, 6)],
                         [[0, 1, 2, 3, 4, 5, 6, 7], [1, 3, 5], [2, 4, 7], [3, 5], [6]])

    def test_many(self):
        chance = random.Random(2)
        for number in range(60):
            worlds = random_worlds(chance, chance.randrange(1, 25))
            for world in range(len(worlds)):
                wanted = [other for other in range(len(worlds)) if is_later(worlds, world, other)]
                self.assertEqual(later(worlds, world), wanted)

    def test_long_rows(self):
        worlds = row_of_worlds(1500, {"a": 1})
        for world in (0, 1, 700, 1498, 1499):
            self.assertEqual(later(worlds, world), list(range(world, 1500)))
        self.assertEqual(later(row_of_worlds(20000, {}), 5), list(range(5, 20000)))

    def test_kinds_of_what_is_told(self):
        told = later(TREE, 1)
        self.assertIs(type(told), list)
        self.assertEqual({type(number) for number in told}, {int})

    def test_what_came_in_stays_and_changes_show_nowhere(self):
        worlds = copy.deepcopy(TREE)
        told = later(worlds, 1)
        self.assertEqual(worlds, TREE)
        told.append(9)
        told[0] = 7
        self.assertEqual(later(worlds, 1), [1, 3, 4])
        worlds.append((1, ["a"]))
        self.assertEqual(later(worlds, 1), [1, 3, 4, 6])
        self.assertEqual(later(TREE, 1), [1, 3, 4])


class Known(unittest.TestCase):
    def test_each_kind_in_a_row(self):
        for statement, wanted in [
            (LOW, [False, False, False]),
            (A, [False, True, True]),
            (B, [False, False, True]),
            (C, [False, False, False]),
            (("both", A, B), [False, False, True]),
            (("both", B, A), [False, False, True]),
            (("one", A, B), [False, True, True]),
            (("one", B, A), [False, True, True]),
            (("one", B, LOW), [False, False, True]),
            (("then", A, B), [False, False, True]),
            (("then", B, A), [True, True, True]),
            (("then", C, B), [True, True, True]),
            (("then", B, C), [False, False, False]),
            (negated(A), [False, False, False]),
            (negated(C), [True, True, True]),
            (negated(negated(A)), [True, True, True]),
            (negated(negated(C)), [False, False, False]),
            (negated(LOW), [True, True, True]),
            (("one", A, negated(A)), [False, True, True]),
            (negated(negated(("one", A, negated(A)))), [True, True, True]),
            (("then", negated(negated(B)), B), [False, False, True]),
        ]:
            self.assertEqual(known(ROW, statement), wanted, statement)

    def test_each_kind_in_a_tree(self):
        for statement, wanted in [
            (LOW, [False, False, False, False, False, False]),
            (A, [False, True, False, True, True, False]),
            (B, [False, False, True, True, False, True]),
            (C, [False, False, False, False, True, False]),
            (("both", A, B), [False, False, False, True, False, False]),
            (("one", A, B), [False, True, True, True, True, True]),
            (("then", A, B), [False, False, True, True, False, True]),
            (("then", B, A), [False, True, False, True, True, False]),
            (("then", C, A), [True, True, True, True, True, True]),
            (negated(A), [False, False, True, False, False, True]),
            (negated(B), [False, False, False, False, True, False]),
            (negated(negated(A)), [False, True, False, True, True, False]),
            (negated(negated(B)), [False, False, True, True, False, True]),
            (negated(negated(("one", A, B))), [True, True, True, True, True, True]),
            (("one", negated(A), negated(negated(A))), [False, True, True, True, True, True]),
        ]:
            self.assertEqual(known(TREE, statement), wanted, statement)

    def test_at_one_world(self):
        for words in ([], ["a"], ["b"], ["a", "b"]):
            for statement in small_statements(["a", "b"]):
                self.assertEqual(known([(None, words)], statement), [known_at([(None, words)], 0, statement)])

    def test_all_small_statements(self):
        for worlds in (ROW, TREE):
            for statement in small_statements(["a", "b", "c", "low"]):
                wanted = [known_at(worlds, world, statement) for world in range(len(worlds))]
                self.assertEqual(known(worlds, statement), wanted, statement)
                self.assertTrue(all(type(truth) is bool for truth in known(worlds, statement)))

    def test_many(self):
        chance = random.Random(3)
        for number in range(150):
            worlds = random_worlds(chance, chance.randrange(1, 7))
            statement = random_statement(chance, chance.randrange(1, 16, 2))
            wanted = [known_at(worlds, world, statement) for world in range(len(worlds))]
            self.assertEqual(known(worlds, statement), wanted)

    def test_a_letter_called_like_a_kind(self):
        worlds = [(None, ["low"]), (0, ["letter", "low"])]
        self.assertEqual(known(worlds, ("letter", "low")), [True, True])
        self.assertEqual(known(worlds, LOW), [False, False])
        self.assertEqual(known(worlds, ("letter", "letter")), [False, True])

    def test_long_rows(self):
        worlds = row_of_worlds(1500, {"a": 500, "b": 1000})
        for statement, world in [(A, 500), (B, 1000), (("both", A, B), 1000), (("one", A, B), 500),
                                 (("then", A, B), 1000), (("then", B, A), 0), (negated(A), 1500),
                                 (negated(negated(B)), 0), (("then", ("then", A, B), B), 0),
                                 (("then", ("then", B, A), B), 1000)]:
            self.assertEqual(known(worlds, statement), [number >= world for number in range(1500)], statement)

    def test_the_greatest(self):
        worlds = row_of_worlds(20000, {"a": 10000})
        self.assertEqual(len(known(worlds, greatest())), 20000)
        for kind in PAIRED:
            for on_left in (True, False):
                statement = ladder(40, kind, on_left)
                small = row_of_worlds(3, {"a": 1, "b": 2})
                self.assertEqual(known(small, statement)[2], known_at(small, 2, statement))

    def test_what_was_told_here_may_be_handed_on_however_deep(self):
        statement = A
        for number in range(4000):
            statement = negated(statement)
        self.assertEqual(known(ROW, statement), [True, True, True])
        self.assertEqual(known(ROW, negated(statement)), [False, False, False])

    def test_what_is_known_stays_known(self):
        chance = random.Random(4)
        for number in range(300):
            worlds = random_worlds(chance, chance.randrange(1, 20))
            truths = known(worlds, random_statement(chance, chance.randrange(1, 30, 2)))
            for world in range(len(worlds)):
                if truths[world]:
                    self.assertTrue(all(truths[other] for other in later(worlds, world)))

    def test_what_came_in_stays_and_changes_show_nowhere(self):
        for statement in (LOW, A, ("then", A, B)):
            worlds = copy.deepcopy(TREE)
            told = known(worlds, statement)
            wanted = list(told)
            self.assertEqual(worlds, TREE)
            self.assertIs(type(told), list)
            told.append(True)
            told[0] = None
            self.assertEqual(known(worlds, statement), wanted)
            worlds[5][1].append("c")
            self.assertEqual(known(TREE, statement), wanted)
        self.assertEqual(known(worlds, C), [False, False, False, False, True, True])


if __name__ == "__main__":
    unittest.main()
