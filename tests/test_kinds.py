"""Points 20 and 21: kinds of terms, their parts, how deep they are; and what point 2 says of all functions."""

import random
import unittest

from ken.errors import NoKind
from ken.kinds import kind, term_deep, term_parts
from ken.texts import read
from samples import (A, B, C, LOW, counted_term, few_words, full, greatest, inner_terms, ladder, random_term,
                     refused_with, some_read, told_kind)

AT = [("at", number) for number in range(6)]
SAME = ("fun", A, AT[0])

# The given statements, the term, its kind.
WITH_A_KIND = [
    ("a", AT[0], "a"), ("a; b; c", AT[0], "a"), ("a; b; c", AT[1], "b"), ("a; b; c", AT[2], "c"), ("0", AT[0], "0"),
    ("a; a", AT[1], "a"),
    ("a", ("pair", AT[0], AT[0]), "(a & a)"), ("a; b", ("pair", AT[1], AT[0]), "(b & a)"),
    ("(a & b)", ("left", AT[0]), "a"), ("(a & b)", ("right", AT[0]), "b"),
    ("c; ((a | b) & 0)", ("left", AT[1]), "(a | b)"), ("c; ((a | b) & 0)", ("right", AT[1]), "0"),
    ("a; b", ("left", ("pair", AT[0], AT[1])), "a"), ("a; b", ("right", ("pair", AT[0], AT[1])), "b"),
    ("a", ("first", AT[0], B), "(a | b)"), ("a", ("second", AT[0], B), "(b | a)"),
    ("c; ~a", ("first", AT[1], LOW), "(~a | 0)"), ("c; ~a", ("second", AT[1], LOW), "(0 | ~a)"),
    ("a", ("first", AT[0], A), "(a | a)"), ("a", ("second", AT[0], A), "(a | a)"),
    ("(a | a)", ("cases", AT[0], AT[0], AT[0]), "a"), ("(a | b); c", ("cases", AT[0], AT[2], AT[2]), "c"),
    ("(a | b)", ("cases", AT[0], ("second", AT[0], B), ("first", AT[0], A)), "(b | a)"),
    ("(a | b); (a > c); (b > c)", ("cases", AT[0], ("use", AT[2], AT[0]), ("use", AT[3], AT[0])), "c"),
    ("(a | b)", ("cases", AT[0], AT[1], AT[1]), "(a | b)"),
    ("", ("fun", A, AT[0]), "(a > a)"), ("b", ("fun", A, AT[1]), "(a > b)"), ("b; c", ("fun", A, AT[2]), "(a > c)"),
    ("", ("fun", A, ("fun", B, AT[0])), "(a > (b > b))"), ("", ("fun", A, ("fun", B, AT[1])), "(a > (b > a))"),
    ("c", ("fun", A, ("fun", B, AT[2])), "(a > (b > c))"), ("c; ~c", ("fun", A, ("fun", B, AT[3])), "(a > (b > ~c))"),
    ("(a > b); a", ("use", AT[0], AT[1]), "b"), ("a; (a > (b & c))", ("use", AT[1], AT[0]), "(b & c)"),
    ("a", ("use", ("fun", A, AT[0]), AT[0]), "a"), ("(a > b); (a > b); a", ("use", AT[1], AT[2]), "b"),
    ("~a; a", ("use", AT[0], AT[1]), "0"), ("((a > b) > b); (a > b)", ("use", AT[0], AT[1]), "b"),
    ("0", ("off", AT[0], A), "a"), ("0", ("off", AT[0], LOW), "0"), ("b; 0", ("off", AT[1], ("both", A, A)), "(a & a)"),
    ("~a; a", ("off", ("use", AT[0], AT[1]), C), "c"),
    # Nothing is given.
    ("", ("pair", SAME, ("fun", B, AT[0])), "((a > a) & (b > b))"), ("", ("left", ("pair", SAME, SAME)), "(a > a)"),
    ("", ("right", ("pair", SAME, ("fun", LOW, AT[0]))), "~0"), ("", ("first", SAME, B), "((a > a) | b)"),
    ("", ("second", SAME, B), "(b | (a > a))"), ("", ("cases", ("first", SAME, B), AT[0], SAME), "(a > a)"),
    ("", ("use", ("fun", read("(a > a)"), ("pair", AT[0], AT[0])), SAME), "((a > a) & (a > a))"),
    ("", ("fun", LOW, ("off", AT[0], A)), "(0 > a)"),
    # One within another: each puts one statement more in front.
    ("(a | (b | c))", ("cases", AT[0], ("second", AT[0], ("one", B, C)),
                       ("cases", AT[0], ("first", ("first", AT[0], C), A), ("first", ("second", AT[0], B), A))),
     "((b | c) | a)"),
    ("(a | b); c", ("cases", AT[0], ("fun", A, AT[3]), ("fun", A, AT[3])), "(a > c)"),
    ("(a | b); c", ("cases", AT[0], ("fun", C, AT[0]), ("fun", C, AT[3])), "(c > c)"),
    ("", ("fun", ("one", A, B), ("cases", AT[0], ("second", AT[0], B), ("first", AT[0], A))), "((a | b) > (b | a))"),
    ("c", ("fun", ("one", A, B), ("cases", AT[0], ("pair", AT[1], AT[2]), ("pair", AT[1], AT[2]))),
     "((a | b) > ((a | b) & c))"),
    ("", ("fun", read("(a > b)"), ("fun", read("(b > c)"), ("fun", A, ("use", AT[1], ("use", AT[2], AT[0]))))),
     "((a > b) > ((b > c) > (a > c)))"),
    ("", ("fun", read("~(a | ~a)"), ("use", AT[0], ("second", ("fun", A, ("use", AT[1], ("first", AT[0], read("~a")))),
                                                     A))), "~~(a | ~a)"),
    ("a; b", ("use", ("fun", A, ("pair", AT[0], AT[2])), AT[0]), "(a & b)"),
]

WITHOUT_A_KIND = [
    ("", AT[0]), ("a", AT[1]), ("a; b; c", AT[3]), ("a", ("at", -1)), ("a; b", ("at", -2)), ("", ("at", -1)),
    ("a", ("at", 10 ** 299)), ("a", ("at", -10 ** 299)),
    ("a", ("fun", A, AT[2])), ("a", ("fun", A, ("at", -1))), ("", ("fun", A, AT[1])),
    ("", ("fun", A, ("fun", B, AT[2]))),
    ("(a | a)", ("cases", AT[0], AT[2], AT[0])), ("(a | a)", ("cases", AT[0], AT[0], AT[2])),
    ("(a | a)", ("cases", AT[0], ("at", -1), AT[0])), ("(a | a)", ("cases", AT[0], AT[0], ("at", -1))),
    ("(a | a)", ("cases", AT[1], AT[0], AT[0])), ("(a | a)", ("cases", ("at", -1), AT[0], AT[0])),
    ("(a | a)", ("cases", AT[0], ("fun", A, AT[3]), ("fun", A, AT[3]))),
    ("a", ("pair", AT[0], AT[1])), ("a", ("pair", AT[1], AT[0])),
    ("a", ("left", AT[0])), ("(a | b)", ("left", AT[0])), ("(a > b)", ("left", AT[0])), ("0", ("left", AT[0])),
    ("a", ("right", AT[0])), ("(a | b)", ("right", AT[0])), ("(a > b)", ("right", AT[0])), ("0", ("right", AT[0])),
    ("(a & b)", ("left", AT[1])), ("(a & b)", ("right", AT[1])), ("((a & b) & c)", ("left", ("right", AT[0]))),
    ("a", ("first", AT[1], A)), ("a", ("second", AT[1], A)),
    ("a", ("cases", AT[0], AT[0], AT[0])), ("(a & a)", ("cases", AT[0], AT[0], AT[0])),
    ("(a > a)", ("cases", AT[0], AT[0], AT[0])), ("0", ("cases", AT[0], AT[1], AT[1])),
    ("a; b", ("cases", AT[0], AT[2], AT[2])),
    ("(a | b)", ("cases", AT[0], AT[0], AT[0])), ("(a | b)", ("cases", AT[0], AT[0], AT[1])),
    ("(a | b)", ("cases", AT[0], ("first", AT[0], B), ("first", AT[0], A))),
    ("(0 | a)", ("cases", AT[0], AT[0], AT[0])),
    ("((a & b) | (b & a))", ("cases", AT[0], AT[0], AT[0])), ("((a & b) | (a & c))", ("cases", AT[0], AT[0], AT[0])),
    ("((a & b) | (a | b))", ("cases", AT[0], AT[0], AT[0])),
    ("(a | b); (a | c)", ("cases", AT[0], ("cases", AT[2], ("pair", AT[0], AT[1]), ("pair", AT[1], AT[1])),
                          ("pair", AT[2], AT[1]))),
    ("a", ("use", AT[0], AT[0])), ("(a & b); a", ("use", AT[0], AT[1])), ("(a | b); a", ("use", AT[0], AT[1])),
    ("0; a", ("use", AT[0], AT[1])), ("(a > b); b", ("use", AT[0], AT[1])), ("(a > b)", ("use", AT[0], AT[0])),
    ("(a > b); a", ("use", AT[1], AT[0])), ("(a > b); a", ("use", AT[0], AT[2])), ("(a > b); a", ("use", AT[2], AT[1])),
    ("((a & b) > c); (b & a)", ("use", AT[0], AT[1])), ("((a & b) > c); (a | b)", ("use", AT[0], AT[1])),
    ("((a > b) > c); (a > c)", ("use", AT[0], AT[1])), ("(a > b); 0", ("use", AT[0], AT[1])),
    ("~a; b", ("use", AT[0], AT[1])), ("(ab > b); a", ("use", AT[0], AT[1])),
    ("a", ("off", AT[0], A)), ("~a", ("off", AT[0], A)), ("(0 & 0)", ("off", AT[0], A)),
    ("(0 | 0)", ("off", AT[0], LOW)),
    ("0", ("off", AT[1], A)), ("low", ("off", AT[0], A)), ("~0", ("off", AT[0], A)),
]


def around(term):
    """The term within each form of term, at each place; the rest has a kind by (a | a), a, 0, whatever its kind."""
    yield from [("pair", term, AT[0]), ("pair", AT[0], term), ("left", ("pair", AT[0], term)),
                ("left", ("pair", term, AT[0])), ("right", ("pair", AT[0], term)), ("right", ("pair", term, AT[0])),
                ("first", term, A), ("second", term, A), ("fun", B, term), ("cases", ("first", term, A), AT[1], AT[1]),
                ("cases", ("second", term, A), AT[1], AT[1]),
                ("cases", AT[0], ("left", ("pair", AT[1], term)), AT[1]),
                ("cases", AT[0], AT[1], ("left", ("pair", AT[1], term))),
                ("use", ("fun", A, AT[0]), ("left", ("pair", AT[1], term))),
                ("use", ("left", ("pair", ("fun", A, AT[0]), term)), AT[1]),
                ("use", ("fun", A, term), AT[1]), ("off", ("left", ("pair", AT[2], term)), B)]


class Refusals(unittest.TestCase):
    def refused(self, term, given):
        refused_with(self, NoKind, kind, term, given)

    def test_terms_without_a_kind(self):
        for texts, term in WITHOUT_A_KIND:
            given = some_read(texts)
            self.assertIsNone(told_kind(term, given), (texts, term))
            for again in range(2):
                self.refused(term, given)
                self.assertEqual(given, some_read(texts))

    def test_deep_within_others(self):
        given = some_read("(a | a); a; 0")
        for term in (("left", AT[0]), ("at", 40), ("at", -1), ("use", AT[0], AT[0]), ("off", AT[0], A),
                     ("cases", AT[0], AT[0], ("pair", AT[0], AT[0]))):
            for one in around(term):
                self.refused(one, given)
                for two in around(one):
                    self.refused(two, given)
        for one in around(AT[0]):
            self.assertEqual(kind(one, given), told_kind(one, given), one)

    def test_a_place_far_down(self):
        for inner, good in ((("at", 41), True), (("at", 42), False), (("at", 2), True), (("left", AT[0]), False)):
            term = inner
            for number in range(39):
                term = ("fun", B, ("left", ("pair", AT[0], term)))
            self.assertLessEqual(term_deep(term), 120)
            if good:
                self.assertEqual(kind(term, [A, B, C]), told_kind(term, [A, B, C]))
            else:
                self.refused(term, [A, B, C])

    def test_many_broken_terms(self):
        chance = random.Random(1)
        told = []
        for number in range(3000):
            given = [few_words(chance, chance.choice((1, 3, 3, 5)), "ab") for one in range(chance.randrange(1, 4))]
            term, its_kind = random_term(chance, given, chance.choice((3, 6, 12, 30)))
            broken = broken_term(chance, term)
            its_kind = told_kind(broken, given)
            told.append(its_kind)
            if its_kind is None:
                self.refused(broken, given)
            else:
                self.assertEqual(kind(broken, given), its_kind)
        self.assertTrue(300 < told.count(None) < 2700, told.count(None))


def broken_term(chance, term):
    """The term with some small change in it."""
    inner = inner_terms(term)
    if inner and chance.random() < 0.75:
        one = chance.randrange(len(inner))
        place = one + (2 if term[0] == "fun" else 1)
        return term[:place] + (broken_term(chance, inner[one]),) + term[place + 1:]
    if term[0] == "at":
        return ("at", term[1] + chance.choice((-1, 1, 2)))
    if term[0] in ("pair", "use"):
        return (term[0], term[2], term[1])
    if term[0] in ("left", "right", "first", "second"):
        return ({"left": "right", "right": "left", "first": "second", "second": "first"}[term[0]],) + term[1:]
    if term[0] == "fun":
        return ("fun", few_words(chance, 1, "ab"), term[2])
    if term[0] == "cases":
        return ("cases", term[1], term[3], term[2])
    return ("off", ("pair", term[1], term[1]), term[2])


class Kinds(unittest.TestCase):
    def test_terms_with_a_kind(self):
        for texts, term, text in WITH_A_KIND:
            given = some_read(texts)
            for again in range(2):
                self.assertEqual(kind(term, given), read(text), (texts, term))
                self.assertEqual(given, some_read(texts))

    def test_each_form_is_among_them(self):
        self.assertEqual({row[1][0] for row in WITH_A_KIND},
                         {"at", "pair", "left", "right", "first", "second", "cases", "fun", "use", "off"})

    def test_more_given_behind_change_nothing(self):
        for texts, term, text in WITH_A_KIND:
            self.assertEqual(kind(term, some_read(texts) + [LOW, A]), read(text))

    def test_what_is_given_may_be_put_in_front(self):
        for texts, term, text in WITH_A_KIND:
            statement = read(text)
            for one in some_read(texts):
                term, statement = ("fun", one, term), ("then", one, statement)
            self.assertEqual(kind(term, []), statement)
            self.assertEqual(kind(term, [C, LOW]), statement)

    def test_many(self):
        chance = random.Random(2)
        for number in range(1500):
            given = [few_words(chance, chance.choice((1, 3, 3, 5)), "ab") for one in range(chance.randrange(1, 4))]
            term, its_kind = random_term(chance, given, chance.choice((2, 5, 20, 60, 200)))
            before = list(given)
            self.assertEqual(kind(term, given), its_kind)
            self.assertEqual(told_kind(term, given), its_kind)
            self.assertEqual(given, before)

    def test_great_statements_within(self):
        great = greatest()
        self.assertEqual(kind(("fun", great, AT[0]), []), ("then", great, great))
        self.assertEqual(kind(("first", AT[0], great), [great]), ("one", great, great))
        self.assertEqual(kind(("off", AT[0], great), [LOW]), great)
        self.assertEqual(kind(("use", ("fun", great, AT[0]), AT[0]), [great]), great)

    def test_many_given(self):
        given = [A, B, C] * 6666 + [LOW]
        self.assertEqual(kind(("at", 19998), given), LOW)
        self.assertEqual(kind(("fun", A, ("at", 19998)), given), ("then", A, C))
        self.assertEqual(kind(("at", 19996), given), B)

    def test_statements_far_deeper_than_any_that_come_in(self):
        deep = ladder(5000, "then")
        self.assertEqual(term_parts(("off", AT[0], deep)), 2)
        told = kind(("use", AT[0], AT[1]), [("then", deep, A), ladder(5000, "then")])
        self.assertEqual(told, A)
        with self.assertRaises(NoKind):
            kind(("use", AT[0], AT[1]), [("then", deep, A), ladder(5001, "then")])

    def test_kinds_that_double_and_double(self):
        # 2 ** 100 parts in the last one; told of are they nowhere, but each of them has a kind.
        term = doubled(("at", 101), ("at", 0), 100)
        self.assertTrue(term_parts(term) <= 1000 and term_deep(term) <= 120)
        self.assertEqual(kind(term, [A, C]), C)

    def test_the_same_great_kind_made_twice(self):
        # Behind the second row of 50 stand the first one's, then A, C and (C | C).
        for one, other, same in ((0, 50, True), (0, 0, True), (3, 53, True), (0, 51, False), (1, 50, False)):
            both = ("cases", ("at", 102), ("at", one + 1), ("at", other + 1))
            inner = ("left", ("pair", ("at", 101), both))
            term = doubled(doubled(inner, ("at", 50), 50), ("at", 0), 50)
            self.assertTrue(term_parts(term) <= 1000 and term_deep(term) <= 120)
            if same:
                self.assertEqual(kind(term, [A, C, ("one", C, C)]), C)
            else:
                with self.assertRaises(NoKind):
                    kind(term, [A, C, ("one", C, C)])


def doubled(inner, start, many):
    """The inner term with so many statements more in front: "both" of start twice, "both" of this twice, and on."""
    term = inner
    for number in range(many):
        at = AT[0] if number < many - 1 else start
        term = ("cases", ("first", ("pair", at, at), LOW), term, ("off", AT[0], C))
    return term


class Sizes(unittest.TestCase):
    def test_each_form(self):
        for term, parts, deep in [
            (AT[0], 1, 1), (("pair", AT[0], AT[1]), 3, 2), (("left", AT[0]), 2, 2), (("right", AT[0]), 2, 2),
            (("first", AT[0], A), 2, 2), (("second", AT[0], A), 2, 2), (("cases", AT[0], AT[0], AT[0]), 4, 2),
            (("fun", A, AT[0]), 2, 2), (("use", AT[0], AT[0]), 3, 2), (("off", AT[0], A), 2, 2), (("at", -5), 1, 1),
        ]:
            self.assertEqual((term_parts(term), term_deep(term)), (parts, deep), term)

    def test_statements_are_not_counted(self):
        for statement in (A, LOW, read("((a & b) > ~c)"), greatest()):
            self.assertEqual((term_parts(("fun", statement, AT[0])), term_deep(("fun", statement, AT[0]))), (2, 2))
            for form in ("first", "second", "off"):
                term = (form, ("pair", AT[0], AT[0]), statement)
                self.assertEqual((term_parts(term), term_deep(term)), (4, 3))

    def test_the_deepest_of_several(self):
        two, three = ("left", AT[0]), ("right", ("left", AT[0]))
        for term, deep in ((("pair", two, AT[0]), 3), (("pair", AT[0], two), 3), (("use", three, two), 4),
                           (("use", two, three), 4), (("cases", three, two, two), 4), (("cases", two, three, two), 4),
                           (("cases", two, AT[0], three), 4)):
            self.assertEqual(term_deep(term), deep)
            self.assertEqual(term_parts(term), counted_term(term)[0])

    def test_as_often_as_they_stand_there(self):
        term = full(9, "pair", ("at", 0))
        self.assertEqual((term_parts(term), term_deep(term)), (511, 9))

    def test_a_thousand_parts(self):
        term = AT[0]
        for number in range(333):
            term = ("left", ("pair", term, AT[0])) if number % 3 else ("pair", AT[1], ("first", term, A))
        self.assertEqual(term_parts(term), 1000)
        self.assertEqual(term_deep(term), 667)
        wide = ("cases", AT[0], full(7, "pair", AT[0]), ("fun", A, full(8, "use", AT[0])))
        wide = ("pair", ("use", full(8, "use", AT[0]), full(8, "pair", AT[0])), ("left", wide))
        self.assertEqual(counted_term(wide), (898, 12))
        self.assertEqual((term_parts(wide), term_deep(wide)), counted_term(wide))

    def test_a_thousand_parts_and_120_deep(self):
        rest, kind_of_rest = AT[0], A
        for number in range(118):
            rest, kind_of_rest = (("pair", AT[0], rest), ("both", A, kind_of_rest)) if number < 113 else (
                ("right", rest), kind_of_rest[2])
        term = ("pair", full(9, "pair", ("first", AT[0], B)), rest)
        self.assertEqual((term_parts(term), term_deep(term)), (1000, 120))
        self.assertEqual(kind(term, [A]), ("both", full(9, "both", ("one", A, B)), kind_of_rest))

    def test_just_as_deep_as_there_may_be(self):
        for form in (lambda term: ("fun", A, term), lambda term: ("pair", AT[0], term), lambda term: ("left", term),
                     lambda term: ("cases", AT[0], AT[0], term), lambda term: ("cases", term, AT[0], AT[0]),
                     lambda term: ("off", term, B), lambda term: ("use", term, AT[0])):
            term = AT[0]
            for number in range(119):
                term = form(term)
            self.assertEqual(term_deep(term), 120)
            self.assertEqual(term_parts(term), counted_term(term)[0])

    def test_just_as_deep_and_of_a_kind(self):
        term, statement = AT[5], A
        for number in range(119):
            term = ("fun", B, term) if number % 24 == 0 else ("first", term, C)
            statement = ("then", B, statement) if number % 24 == 0 else ("one", statement, C)
        self.assertEqual(term_deep(term), 120)
        self.assertEqual(kind(term, [A]), statement)

    def test_many(self):
        chance = random.Random(3)
        for number in range(500):
            term, its_kind = random_term(chance, [A, read("(a > b)")], chance.choice((2, 5, 20, 60, 300)))
            self.assertEqual((term_parts(term), term_deep(term)), counted_term(term))


if __name__ == "__main__":
    unittest.main()
