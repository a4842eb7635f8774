"""Point 23: a term put in the place of the statement in front."""

import random
import unittest

from ken.kinds import kind, term_parts
from ken.spots import put
from samples import A, B, C, LOW, few_words, full, greatest, random_term, told_put

AT = [("at", number) for number in range(9)]

# t, a, and t [a].
PUT = [
    # The statement in front, and later ones.
    (AT[0], AT[0], AT[0]), (AT[0], AT[3], AT[3]), (AT[1], AT[5], AT[0]), (AT[4], AT[5], AT[3]),
    (AT[0], ("left", AT[2]), ("left", AT[2])), (("at", 10 ** 299), AT[0], ("at", 10 ** 299 - 1)),
    # Each form of term.
    (("pair", AT[0], AT[1]), AT[7], ("pair", AT[7], AT[0])), (("pair", AT[1], AT[0]), AT[7], ("pair", AT[0], AT[7])),
    (("left", AT[0]), AT[7], ("left", AT[7])), (("right", AT[0]), AT[7], ("right", AT[7])),
    (("first", AT[0], A), AT[7], ("first", AT[7], A)), (("second", AT[0], A), AT[7], ("second", AT[7], A)),
    (("use", AT[0], AT[2]), AT[7], ("use", AT[7], AT[1])), (("use", AT[2], AT[0]), AT[7], ("use", AT[1], AT[7])),
    (("off", AT[0], A), AT[7], ("off", AT[7], A)),
    # Within "fun": its own number stays, the number in front is one more, later ones are one less.
    (("fun", A, AT[0]), AT[7], ("fun", A, AT[0])), (("fun", A, AT[1]), AT[7], ("fun", A, AT[8])),
    (("fun", A, AT[2]), AT[7], ("fun", A, AT[1])), (("fun", A, AT[4]), AT[7], ("fun", A, AT[3])),
    (("fun", A, ("fun", B, AT[0])), AT[6], ("fun", A, ("fun", B, AT[0]))),
    (("fun", A, ("fun", B, AT[1])), AT[6], ("fun", A, ("fun", B, AT[1]))),
    (("fun", A, ("fun", B, AT[2])), AT[6], ("fun", A, ("fun", B, AT[8]))),
    (("fun", A, ("fun", B, AT[3])), AT[6], ("fun", A, ("fun", B, AT[2]))),
    # "cases" put one in front of the last two, none of the first.
    (("cases", AT[0], AT[0], AT[0]), AT[7], ("cases", AT[7], AT[0], AT[0])),
    (("cases", AT[1], AT[1], AT[1]), AT[7], ("cases", AT[0], AT[8], AT[8])),
    (("cases", AT[2], AT[2], AT[2]), AT[7], ("cases", AT[1], AT[1], AT[1])),
    (("cases", AT[3], AT[1], AT[0]), AT[7], ("cases", AT[2], AT[8], AT[0])),
    (("cases", AT[3], AT[0], AT[1]), AT[7], ("cases", AT[2], AT[0], AT[8])),
    # One within another.
    (("cases", ("fun", A, AT[1]), ("fun", A, AT[2]), ("cases", AT[1], AT[2], AT[1])), AT[3],
     ("cases", ("fun", A, AT[4]), ("fun", A, AT[5]), ("cases", AT[4], AT[5], AT[1]))),
    (("fun", A, ("cases", AT[1], ("fun", B, AT[3]), AT[3])), AT[0],
     ("fun", A, ("cases", AT[1], ("fun", B, AT[3]), AT[2]))),
    # What is put in has "fun" and "cases" itself: its own numbers stay.
    (("fun", A, AT[1]), ("fun", B, ("pair", AT[0], AT[1])), ("fun", A, ("fun", B, ("pair", AT[0], AT[2])))),
    (("fun", A, ("fun", A, AT[2])), ("fun", B, ("fun", C, ("pair", ("pair", AT[0], AT[1]), ("pair", AT[2], AT[3])))),
     ("fun", A, ("fun", A, ("fun", B, ("fun", C, ("pair", ("pair", AT[0], AT[1]), ("pair", AT[4], AT[5]))))))),
    (("fun", A, AT[1]), ("cases", AT[0], AT[0], AT[1]), ("fun", A, ("cases", AT[1], AT[0], AT[2]))),
    (("cases", AT[2], ("fun", A, AT[2]), AT[1]), ("cases", AT[1], ("fun", A, AT[2]), AT[0]),
     ("cases", AT[1], ("fun", A, ("cases", AT[3], ("fun", A, AT[4]), AT[0])),
      ("cases", AT[2], ("fun", A, AT[3]), AT[0]))),
    (AT[0], ("fun", A, ("cases", AT[1], AT[0], AT[5])), ("fun", A, ("cases", AT[1], AT[0], AT[5]))),
    # At several places, and at none.
    (("pair", AT[0], ("pair", AT[0], ("fun", A, ("pair", AT[1], AT[0])))), ("left", AT[0]),
     ("pair", ("left", AT[0]), ("pair", ("left", AT[0]), ("fun", A, ("pair", ("left", AT[1]), AT[0]))))),
    (("pair", AT[1], ("fun", A, ("pair", AT[0], AT[2]))), ("left", AT[0]),
     ("pair", AT[0], ("fun", A, ("pair", AT[0], AT[1])))),
    # Statements within stay as they are, and what is put in may turn.
    (("fun", greatest(), ("first", AT[1], LOW)), AT[0], ("fun", greatest(), ("first", AT[1], LOW))),
    (("left", AT[0]), ("pair", AT[0], AT[1]), ("left", ("pair", AT[0], AT[1]))),
]


class Put(unittest.TestCase):
    def test_by_hand(self):
        for term, other, told in PUT:
            self.assertEqual(put(term, other), told, (term, other))
            self.assertEqual(told_put(term, other) if term[0] != "at" or term[1] < 100 else told, told)

    def test_many(self):
        """What is put in as it should be has the kind that it had, too."""
        chance = random.Random(1)
        for number in range(1500):
            given = [few_words(chance, chance.choice((1, 3, 3, 5)), "ab") for one in range(chance.randrange(1, 4))]
            other, other_kind = random_term(chance, given, chance.choice((1, 2, 5, 20)))
            term, its_kind = random_term(chance, [other_kind] + given, chance.choice((1, 2, 5, 20, 60)))
            told = put(term, other)
            self.assertEqual(told, told_put(term, other))
            self.assertEqual(kind(told, given), its_kind)

    def test_far_within(self):
        term, told = ("at", 100), ("at", 103)
        for number in range(100):
            term, told = ("fun", A, term), ("fun", A, told)
        self.assertEqual(put(term, AT[3]), told)

    def test_many_places(self):
        term = put(full(9, "pair", AT[0]), full(5, "use", ("fun", A, ("pair", AT[0], AT[1]))))
        self.assertEqual(term, full(9, "pair", full(5, "use", ("fun", A, ("pair", AT[0], AT[1])))))
        self.assertEqual(term_parts(term), 255 + 256 * (15 + 16 * 4))
        great = put(("fun", A, full(9, "pair", AT[1])), ("fun", A, full(9, "use", AT[1])))
        self.assertEqual(great, ("fun", A, full(9, "pair", ("fun", A, full(9, "use", AT[2])))))


if __name__ == "__main__":
    unittest.main()
