"""Points 24, 25 and 26, and of point 3 (d) what it says of turnings."""

import random
import unittest

from ken.decide import decide
from ken.errors import Large, NoTurning
from ken.kinds import kind, term_deep, term_parts
from ken.making import term_of
from ken.turnings import brought, turned, turnings
from samples import (A, B, C, LOW, few_words, full, random_lines, random_question, random_term, refused_with,
                     told_turnings)

AT = [("at", number) for number in range(9)]

# Terms that turn, and to what.
TURNS = [
    (("left", ("pair", AT[0], AT[1])), AT[0]), (("right", ("pair", AT[0], AT[1])), AT[1]),
    (("left", ("pair", ("left", AT[0]), AT[1])), ("left", AT[0])),
    (("use", ("fun", A, AT[0]), AT[3]), AT[3]), (("use", ("fun", A, AT[1]), AT[3]), AT[0]),
    (("use", ("fun", A, ("pair", AT[0], AT[2])), ("left", AT[3])), ("pair", ("left", AT[3]), AT[1])),
    (("use", ("fun", A, ("fun", B, ("pair", AT[1], AT[0]))), AT[2]), ("fun", B, ("pair", AT[3], AT[0]))),
    (("cases", ("first", AT[3], B), ("left", AT[0]), AT[1]), ("left", AT[3])),
    (("cases", ("first", AT[3], B), AT[1], AT[0]), AT[0]), (("cases", ("first", AT[3], B), AT[2], AT[0]), AT[1]),
    (("cases", ("second", AT[3], A), AT[1], ("left", AT[0])), ("left", AT[3])),
    (("cases", ("second", AT[3], A), AT[0], AT[1]), AT[0]), (("cases", ("second", AT[3], A), AT[0], AT[2]), AT[1]),
    (("cases", ("second", AT[3], A), AT[0], ("fun", C, AT[1])), ("fun", C, AT[4])),
]

# The same forms of terms, where nothing turns.
REST = [
    AT[0], ("pair", AT[0], AT[1]), ("left", AT[0]), ("right", AT[0]), ("first", AT[0], A), ("second", AT[0], A),
    ("cases", AT[0], AT[0], AT[0]), ("fun", A, AT[0]), ("use", AT[0], AT[1]), ("off", AT[0], A),
    ("left", ("left", AT[0])), ("right", ("right", AT[0])), ("left", ("fun", A, AT[0])),
    ("right", ("use", AT[0], AT[1])),
    ("left", ("cases", AT[0], ("pair", AT[0], AT[0]), ("pair", AT[0], AT[0]))),
    ("use", ("use", AT[0], AT[1]), AT[2]), ("use", ("left", AT[0]), ("fun", A, AT[0])),
    ("use", ("cases", AT[0], ("fun", A, AT[0]), ("fun", A, AT[1])), AT[1]),
    ("cases", ("cases", AT[0], ("first", AT[0], B), ("first", AT[1], B)), AT[0], AT[0]),
    ("cases", AT[0], ("first", AT[0], A), ("second", AT[0], A)), ("cases", ("left", AT[0]), AT[0], AT[0]),
    ("pair", ("pair", AT[0], AT[1]), ("fun", A, ("fun", A, AT[0]))), ("first", ("second", ("first", AT[0], A), A), B),
    ("fun", A, ("pair", AT[0], ("fun", B, AT[1]))), ("off", ("left", AT[0]), A), ("off", ("off", AT[0], LOW), LOW),
]

AROUND = [
    lambda term: ("pair", term, AT[1]), lambda term: ("pair", AT[1], term), lambda term: ("left", term),
    lambda term: ("right", term), lambda term: ("first", term, A), lambda term: ("second", term, A),
    lambda term: ("cases", term, AT[1], AT[2]), lambda term: ("cases", AT[1], term, AT[2]),
    lambda term: ("cases", AT[1], AT[2], term), lambda term: ("fun", A, term), lambda term: ("use", term, AT[1]),
    lambda term: ("use", AT[1], term), lambda term: ("off", term, A),
]


class Turnings(unittest.TestCase):
    def test_each_kind_by_itself(self):
        for term, told in TURNS:
            self.assertEqual(turnings(term), 1)
            self.assertEqual(turned(term, 0), told)

    def test_each_kind_within_each_form(self):
        for term, told in TURNS:
            for one in AROUND:
                self.assertEqual(turnings(one(term)), 1)
                self.assertEqual(turned(one(term), 0), one(told))
                for other in AROUND:
                    if turnings(one(other(AT[0]))) == 0:
                        self.assertEqual(turnings(one(other(term))), 1)
                        self.assertEqual(turned(one(other(term)), 0), one(other(told)))

    def test_terms_without_a_turning(self):
        for term in REST:
            self.assertEqual(turnings(term), 0)
            self.assertEqual(brought(term), term)
            for number in (-1, 0, 1):
                refused_with(self, NoTurning, turned, term, number)

    def test_a_term_ahead_of_those_within_it(self):
        inner = ("left", ("pair", AT[2], AT[3]))
        for term, told in ((("left", ("pair", inner, AT[1])), (inner, ("left", ("pair", AT[2], AT[1])))),
                           (("left", ("pair", AT[1], inner)), (AT[1], ("left", ("pair", AT[1], AT[2])))),
                           (("use", ("fun", A, inner), AT[5]), (("left", ("pair", AT[1], AT[2])),
                                                               ("use", ("fun", A, AT[2]), AT[5]))),
                           (("use", ("fun", A, AT[0]), inner), (inner, ("use", ("fun", A, AT[0]), AT[2]))),
                           (("cases", ("first", inner, B), AT[0], AT[0]), (inner, ("cases", ("first", AT[2], B), AT[0],
                                                                                   AT[0])))):
            self.assertEqual(turnings(term), 2)
            self.assertEqual((turned(term, 0), turned(term, 1)), told)

    def test_those_within_one_term_in_their_order(self):
        red = ("left", ("pair", AT[2], AT[3]))
        blue = ("right", ("pair", AT[2], AT[3]))
        green = ("use", ("fun", A, AT[0]), AT[4])
        for form in ("pair", "use"):
            self.assertEqual(turned((form, red, blue), 0), (form, AT[2], blue))
            self.assertEqual(turned((form, red, blue), 1), (form, red, AT[3]))
        term = ("cases", red, blue, green)
        self.assertEqual([turned(term, number) for number in range(3)],
                         [("cases", AT[2], blue, green), ("cases", red, AT[3], green), ("cases", red, blue, AT[4])])
        term = ("use", ("fun", A, ("pair", red, blue)), green)
        self.assertEqual([turned(term, number) for number in (1, 2, 3)],
                         [("use", ("fun", A, ("pair", AT[2], blue)), green),
                          ("use", ("fun", A, ("pair", red, AT[3])), green),
                          ("use", ("fun", A, ("pair", red, blue)), AT[4])])
        # All within the first one stand ahead of the second one.
        term = ("pair", ("pair", red, ("left", ("pair", blue, AT[0]))), green)
        self.assertEqual([turned(term, number) for number in range(4)],
                         [("pair", ("pair", AT[2], ("left", ("pair", blue, AT[0]))), green),
                          ("pair", ("pair", red, blue), green),
                          ("pair", ("pair", red, ("left", ("pair", AT[3], AT[0]))), green),
                          ("pair", ("pair", red, ("left", ("pair", blue, AT[0]))), AT[4])])

    def test_no_such_number(self):
        one, other = TURNS[0][0], TURNS[3][0]
        for term, many in ((one, 1), (("pair", one, other), 2), (full(4, "pair", one), 8)):
            self.assertEqual(turnings(term), many)
            turned(term, many - 1)
            for number in (-1, -many, -10 ** 299, many, many + 1, 10 ** 299):
                refused_with(self, NoTurning, turned, term, number)

    def test_many(self):
        chance = random.Random(1)
        counts = []
        for number in range(400):
            given = [few_words(chance, chance.choice((1, 3, 3, 5)), "ab") for one in range(chance.randrange(1, 4))]
            term, its_kind = random_term(chance, given, chance.choice((3, 8, 20, 40)))
            told = told_turnings(term)
            self.assertEqual(turnings(term), len(told))
            self.assertEqual([turned(term, one) for one in range(len(told))], told)
            counts.append(len(told))
        self.assertTrue(min(counts) == 0 and max(counts) > 8)


class Sizes(unittest.TestCase):
    def test_just_a_thousand_parts(self):
        # 4 places of 249 parts, and 3 more: 999; with what stands around 1000 and 1001.
        four = ("fun", A, full(3, "pair", AT[0]))
        term = ("use", four, chain_of(249))
        self.assertEqual(term_parts(turned(("left", term), 0)), 1000)
        refused_with(self, Large, turned, ("left", ("left", term)), 0)
        self.assertEqual(term_parts(turned(("use", four, ("pair", chain_of(247), AT[0])), 0)), 999)
        refused_with(self, Large, turned, ("use", four, ("left", chain_of(249))), 0)
        # The whole term counts, not what turns alone.
        beside = chain_of(498)
        half = ("use", ("fun", A, ("pair", AT[0], AT[0])), chain_of(250))
        self.assertEqual(term_parts(turned(("pair", half, beside), 0)), 1000)
        refused_with(self, Large, turned, ("pair", half, ("left", beside)), 0)

    def test_one_turning_is_refused_and_another_is_not(self):
        great = ("use", ("fun", A, full(4, "pair", AT[0])), chain_of(200))
        term = ("pair", great, ("left", ("pair", AT[0], AT[1])))
        refused_with(self, Large, turned, term, 0)
        self.assertEqual(turned(term, 1), ("pair", great, AT[0]))
        refused_with(self, NoTurning, turned, term, 2)

    def test_just_as_deep_as_there_may_be(self):
        for deep, other_deep in ((60, 61), (2, 119), (101, 20), (118, 3)):
            function = ("fun", A, row_of("second", AT[0], deep))
            term = ("use", function, row_of("first", AT[0], other_deep))
            self.assertLessEqual(term_deep(term), 120)
            self.assertEqual(term_deep(turned(term, 0)), 120)
            refused_with(self, Large, turned, ("off", term, A), 0)
            deeper = ("use", function, row_of("first", AT[0], other_deep + 1))
            refused_with(self, Large, turned, deeper, 0)
            refused_with(self, Large, brought, deeper)

    def test_what_came_in_may_be_as_great_as_there_may_be(self):
        term = ("left", ("pair", chain_of(990), row_of("first", AT[0], 8)))
        self.assertEqual(term_parts(term), 1000)
        self.assertEqual(term_parts(turned(term, 0)), 990)
        deep = ("right", ("pair", AT[0], row_of("first", AT[0], 118)))
        self.assertEqual(term_deep(deep), 120)
        self.assertEqual(turned(deep, 0), row_of("first", AT[0], 118))
        self.assertEqual(brought(deep), row_of("first", AT[0], 118))

    def test_far_too_great(self):
        great = ("use", ("fun", A, full(8, "pair", AT[0])), full(9, "pair", AT[0]))
        refused_with(self, Large, turned, great, 0)
        refused_with(self, Large, brought, great)


def chain_of(parts):
    """A term of so many parts that isn't deep and has no turning."""
    if parts <= 2:
        return AT[0] if parts == 1 else ("first", AT[1], A)
    half = (parts - 1) // 2
    return ("pair", chain_of(half), chain_of(parts - 1 - half))


def row_of(form, term, deep):
    """The term within others of this form, so deep in all."""
    for number in range(deep - term_deep(term)):
        term = (form, term, B)
    return term


def turning_often(many):
    """A term that has so many turnings, each apart from the others."""
    if many == 1:
        return ("left", ("pair", AT[0], AT[1]))
    return ("pair", turning_often(many // 2), turning_often(many - many // 2))


class Brought(unittest.TestCase):
    def test_one_after_the_other(self):
        pair = ("pair", AT[0], AT[1])
        for term, told in [
            (("left", pair), AT[0]), (("left", ("left", ("pair", pair, AT[2]))), AT[0]),
            (("use", ("fun", A, ("left", AT[0])), pair), AT[0]),
            (("use", ("use", ("fun", A, AT[0]), ("fun", B, ("pair", AT[0], AT[0]))), AT[3]), ("pair", AT[3], AT[3])),
            (("cases", ("left", ("pair", ("second", AT[3], A), AT[0])), AT[7], ("left", pair)), AT[3]),
            (("use", ("fun", A, ("use", AT[0], AT[1])), ("fun", B, ("fun", C, AT[1]))), ("fun", C, AT[1])),
            (("use", ("fun", A, ("cases", AT[0], AT[0], AT[0])), ("first", AT[4], B)), AT[4]),
            (("fun", A, ("use", ("fun", A, AT[1]), AT[5])), ("fun", A, AT[0])),
        ]:
            self.assertEqual(brought(term), told)
            self.assertEqual(turnings(told), 0)

    def test_just_150_turnings(self):
        for many in (1, 2, 149, 150):
            self.assertEqual(turnings(turning_often(many)), many)
            self.assertEqual(turnings(brought(turning_often(many))), 0)
        for many in (151, 152, 190):
            self.assertLessEqual(term_parts(turning_often(many)), 1000)
            refused_with(self, Large, brought, turning_often(many))

    def test_turnings_that_come_on_the_way_count_too(self):
        # Each of the many is there twice behind the first one: 1 + 2 * many.
        for many, rests in ((74, True), (75, False)):
            term = ("use", ("fun", A, ("pair", AT[0], AT[0])), turning_often(many))
            self.assertEqual(turnings(term), many + 1)
            if rests:
                self.assertEqual(turnings(brought(("pair", term, ("left", ("pair", AT[0], AT[1]))))), 0)
                refused_with(self, Large, brought, ("pair", term, turning_often(2)))
            else:
                refused_with(self, Large, brought, term)

    def test_doubled_and_doubled(self):
        # Of so many there come 2 ** many - 1 turnings.
        for many, rests in ((1, True), (4, True), (7, True), (8, False)):
            term = AT[0]
            for number in range(many):
                term = ("use", ("fun", A, ("pair", AT[0], AT[0])), term)
            if rests:
                self.assertEqual(brought(term), full(many + 1, "pair", AT[0]))
            else:
                refused_with(self, Large, brought, term)

    def test_too_large_on_the_way(self):
        inner = ("use", ("fun", A, full(4, "pair", AT[0])), ("pair", AT[0], AT[0]))
        for parts, rests in ((50, True), (80, False)):
            term = ("use", ("fun", A, inner), chain_of(parts))
            self.assertEqual(turnings(turned(term, 0)), 1)
            if rests:
                self.assertEqual(term_parts(brought(term)), 7 + 8 * 101)
            else:
                refused_with(self, Large, brought, term)

    def test_large_though_the_end_would_be_small(self):
        wide = ("use", ("fun", A, ("pair", AT[3], full(5, "pair", AT[0]))), chain_of(100))
        refused_with(self, Large, brought, ("left", wide))
        # What is left aside is turned away first, since a term comes ahead of those within it.
        self.assertEqual(brought(("left", ("pair", AT[3], wide))), AT[3])

    def test_at_0_each_time(self):
        # Turned from within, it would be too large; turned at 0 it never is.
        wide = ("use", ("fun", A, full(5, "pair", AT[0])), chain_of(100))
        term = ("use", ("fun", A, AT[3]), wide)
        refused_with(self, Large, turned, term, 1)
        self.assertEqual(brought(term), AT[2])


class ThePromise(unittest.TestCase):
    def some_terms(self, seed, many, sizes):
        """Terms with a kind, and what is given."""
        chance = random.Random(seed)
        for number in range(many):
            given = [few_words(chance, chance.choice((1, 3, 3, 5)), "ab") for one in range(chance.randrange(1, 4))]
            term, its_kind = random_term(chance, given, chance.choice(sizes))
            yield chance, term, given, its_kind

    def test_a_turning_leaves_the_kind(self):
        many = 0
        for chance, term, given, its_kind in self.some_terms(2, 300, (3, 8, 20, 60)):
            for number in range(turnings(term)):
                self.assertEqual(kind(turned(term, number), given), its_kind)
                many += 1
        self.assertGreater(many, 500)

    def test_in_whatever_order_to_the_same_one(self):
        many = 0
        for chance, term, given, its_kind in self.some_terms(3, 250, (3, 8, 20, 60, 120)):
            try:
                told = {self.turned_in_any_order(chance, term) for number in range(3)} | {brought(term)}
            except Large:
                continue
            many += 1
            self.assertEqual(len(told), 1)
            self.assertEqual(kind(told.pop(), given), its_kind)
        self.assertGreater(many, 100)

    def turned_in_any_order(self, chance, term):
        while turnings(term):
            term = turned(term, chance.choice((0, turnings(term) - 1, chance.randrange(turnings(term)))))
        return term

    def test_terms_of_lines(self):
        chance = random.Random(4)
        many = 0
        for number in range(120):
            lines = random_lines(chance, chance.choice((4, 8)))
            if number % 2:
                told, lines = decide(*random_question(chance, "ab", 14))
                if told == "worlds" or len(lines) > 12:
                    continue
            term = term_of(lines)
            try:
                told = brought(term)
                also = self.turned_in_any_order(chance, term)
            except Large:
                continue
            many += 1
            self.assertEqual(told, also)
            self.assertEqual(kind(told, lines[-1][1]), lines[-1][2])
        self.assertGreater(many, 50)


if __name__ == "__main__":
    unittest.main()
