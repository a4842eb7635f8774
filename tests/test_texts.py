"""Point 7: statements as texts, and back."""

import random
import re
import unittest

from ken import errors
from ken.errors import KenError, NoText
from ken.statements import deep, negated
from ken.texts import read, shown
from samples import A, B, C, LOW, PAIRED, WORDS, greatest, ladder, random_statements

PAIRS = [
    ("0", LOW),
    ("a", A),
    ("low", ("letter", "low")),
    ("abcdefgh", ("letter", "abcdefgh")),
    ("z", ("letter", "z")),
    ("(a & b)", ("both", A, B)),
    ("(a | b)", ("one", A, B)),
    ("(a > b)", ("then", A, B)),
    ("(0 & 0)", ("both", LOW, LOW)),
    ("(a | 0)", ("one", A, LOW)),
    ("(0 > a)", ("then", LOW, A)),
    ("~a", ("then", A, LOW)),
    ("~0", ("then", LOW, LOW)),
    ("~~a", ("then", ("then", A, LOW), LOW)),
    ("~~0", ("then", ("then", LOW, LOW), LOW)),
    ("~(a & b)", ("then", ("both", A, B), LOW)),
    ("((a & b) > ~c)", ("then", ("both", A, B), ("then", C, LOW))),
    ("(~a > ~0)", ("then", ("then", A, LOW), ("then", LOW, LOW))),
    ("(a > (b > c))", ("then", A, ("then", B, C))),
    ("((a > b) > c)", ("then", ("then", A, B), C)),
    ("(both > (then | letter))", ("then", ("letter", "both"), ("one", ("letter", "then"), ("letter", "letter")))),
]

# The text, and the number of signs of its longest beginning that can still become a text.
REFUSED = [
    # without signs, and ending too early: the length
    ("", 0), ("~", 1), ("~~", 2), ("(", 1), ("((", 2), ("(~", 2), ("(a", 2), ("(a ", 3), ("(a &", 4), ("(a & ", 5),
    ("(a & b", 6), ("(abcdefgh", 9), ("((a & b)", 8), ("((a & b) ", 9), ("(a > 0", 6), ("(a > (b | c)", 12),
    ("(0", 2), ("~(0 | ~", 7),
    # more behind a whole text
    ("a ", 1), ("a\n", 1), ("0 ", 1), ("00", 1), ("0a", 1), ("a0", 1), ("a b", 1), ("(a & b) ", 7), ("(a & b))", 7),
    ("(a & b)c", 7), ("~a~", 2), ("a~", 1), ("a & b", 1), ("a(", 1), ("a)", 1), ("~0)", 2), ("(a & b)(a & b)", 7),
    # a sign that can't stand, at the beginning
    (" a", 0), (")", 0), ("&", 0), ("|", 0), (">", 0), ("A", 0), ("1", 0), ("\t", 0), ("\n", 0), ("-a", 0), ("@", 0),
    ("`", 0), ("{", 0), ("~ a", 1), ("~)", 1), ("~A", 1), ("( a & b)", 1), ("()", 1), ("(&", 1), ("(\ta & b)", 1),
    # within and behind a word
    ("aB", 1), ("ab1", 2), ("a_b", 1), ("a'", 1), ("(aB & c)", 2), ("(a1 & c)", 2), ("(a0 & c)", 2), ("(0a & c)", 2),
    ("(a~ & c)", 2), ("(a & bC)", 6), ("(a & b0)", 6), ("(a & b~)", 6), ("(a & b&)", 6), ("(a{ & c)", 2),
    # behind a bracket
    ("(a & b)~", 7), ("(a & b)0", 7), ("((a & b)c | d)", 8), ("((a & b)) | d)", 8), ("((a & b)& c)", 8),
    ("(c | (a & b)d)", 12), ("(c | (a & b) )", 12),
    # in the place of a blank, a missing blank, two blanks
    ("(a& b)", 2), ("(a\t& b)", 2), ("(a\n& b)", 2), ("(a.& b)", 2), ("(a &b)", 4), ("(a &\tb)", 4), ("(a &\nb)", 4),
    ("(a)", 2), ("(0)", 2), ("(0)&", 2), ("(a  & b)", 3), ("(a &  b)", 5), ("(a & b )", 6), ("(a &~b)", 4),
    ("(a &(b | c))", 4), ("(a &0)", 4),
    # in the place of a sign of a kind
    ("(a b)", 3), ("(a ~ b)", 3), ("(a 0 b)", 3), ("(a - b)", 3), ("(a ) b)", 3), ("(a ( b)", 3), ("(a = b)", 3),
    ("(a && b)", 4), ("(a >> b)", 4), ("(a -> b)", 3), ("(a => b)", 3), ("(a \t b)", 3), ("(a < b)", 3),
    # in the place of a closing bracket
    ("(a & b]", 6), ("(a & b & c)", 6), ("(a & 0(", 6), ("(a & 0~", 6), ("(a & 00)", 6), ("(a & b\n)", 6),
    ("(a & b(", 6), ("(a & ~b ", 7), ("(a & )", 5), ("(a > 0 ", 6),
    # the ninth letter of a word
    ("abcdefghi", 8), ("~abcdefghi", 9), ("(abcdefghi & b)", 9), ("(a & abcdefghi)", 13), ("aaaaaaaaaaaaaaaaaaaa", 8),
    ("(abcdefgh & abcdefghi)", 20),
    # capital letters, other figures, tabs, line ends, other signs
    ("abC", 2), ("(a & B)", 5), ("(A & b)", 1), ("Z", 0), ("9", 0), ("(a & 1)", 5), ("~1", 1), ("01", 1), ("a\t", 1),
    ("\na", 0), ("~\ta", 1), ("(a & b)\n", 7), ("(a & b)\r\n", 7), ("\r", 0), ("!a", 0), ("a > b", 1), ("(a & #)", 5),
]


def with_zeros(statement, chance):
    """The statement's text, with `(A > 0)` in the place of `~A` at some places."""
    if statement[0] == "low":
        return "0"
    if statement[0] == "letter":
        return statement[1]
    first = with_zeros(statement[1], chance)
    if statement[0] == "then" and statement[2] == LOW and chance.random() < 0.5:
        return "~" + first
    sign = {"both": "&", "one": "|", "then": ">"}[statement[0]]
    return "(" + first + " " + sign + " " + with_zeros(statement[2], chance) + ")"


def is_whole(text):
    """Whether the text is one that is read, told by making it shorter from within."""
    before = None
    now = re.sub("0|[a-z]{1,8}", "S", text) if "S" not in text else ""
    while now != before:
        before = now
        now = re.sub(r"~S|\(S [&|>] S\)", "S", now)
    return now == "S"


def closings(many):
    """All that may stand behind a whole statement within so many brackets."""
    tails = [""]
    for number in range(many):
        tails = [tail + more for tail in tails for more in (")", " & 0)")]
    return tails


def goes_on(text):
    """Whether some text that is read begins with this one."""
    unclosed = text.count("(") - text.count(")")
    if unclosed < 0:
        return False
    if any(is_whole(text + here + tail) for here in ("", "0") for tail in closings(unclosed)):
        return True
    if unclosed == 0:
        return False
    return any(is_whole(text + here + tail) for here in ("& 0)", " 0)", "0)") for tail in closings(unclosed - 1))


def all_tuples_and_texts(statement):
    if type(statement) is not tuple:
        return False
    if statement[0] in PAIRED:
        return len(statement) == 3 and type(statement[0]) is str and all(map(all_tuples_and_texts, statement[1:]))
    return all(type(text) is str for text in statement)


class Shown(unittest.TestCase):
    def test_each_kind(self):
        for text, statement in PAIRS:
            self.assertEqual(shown(statement), text)

    def test_not_anywhere(self):
        for kind, sign in (("both", "&"), ("one", "|"), ("then", ">")):
            for inner, text in (("~a", A), ("~0", LOW), ("~(b | c)", ("one", B, C)), ("~~a", ("then", A, LOW))):
                self.assertEqual(shown((kind, ("then", text, LOW), C)), f"({inner} {sign} c)")
                self.assertEqual(shown((kind, C, ("then", text, LOW))), f"(c {sign} {inner})")

    def test_none_is_shown_by_if_then_nothing(self):
        for statement in random_statements(4, 200):
            self.assertNotIn("> 0)", shown(statement))

    def test_many(self):
        for statement in random_statements(5, 200) + [greatest()]:
            self.assertTrue(is_whole(shown(statement)))

    def test_what_was_told_here_may_be_handed_on_however_deep(self):
        statement = ("both", A, B)
        for number in range(5000):
            statement = negated(statement)
        self.assertEqual(shown(statement), "~" * 5000 + "(a & b)")


class Read(unittest.TestCase):
    def test_each_kind(self):
        for text, statement in PAIRS:
            self.assertEqual(read(text), statement)
            self.assertTrue(all_tuples_and_texts(read(text)))

    def test_every_word(self):
        for word in WORDS + tuple("abcdefghijklmnopqrstuvwxyz"):
            self.assertEqual(read(word), ("letter", word))
            self.assertEqual(read(f"({word} > {word})"), ("then", ("letter", word), ("letter", word)))

    def test_what_is_shown_is_read(self):
        deep_ones = [ladder(40, kind, on_left) for kind in PAIRED for on_left in (True, False)]
        for statement in random_statements(6, 200) + [greatest()] + deep_ones:
            told = read(shown(statement))
            self.assertEqual(told, statement)
            self.assertTrue(all_tuples_and_texts(told))

    def test_if_then_nothing_in_the_place_of_not(self):
        self.assertEqual(read("(a > 0)"), ("then", A, LOW))
        self.assertEqual(read("~(a > 0)"), read("~~a"))
        self.assertEqual(read("((a > 0) > 0)"), read("~~a"))
        self.assertEqual(read("(~a > 0)"), read("~~a"))
        self.assertEqual(read("(0 > 0)"), ("then", LOW, LOW))
        chance = random.Random(8)
        for statement in random_statements(9, 200):
            self.assertEqual(read(with_zeros(statement, chance)), statement)

    def test_forty_within_one_another(self):
        self.assertEqual(deep(read("~" * 40 + "a")), 41)
        self.assertEqual(deep(read("(" * 40 + "a" + " | b)" * 40)), 41)
        self.assertEqual(deep(read("(a & " * 40 + "a" + ")" * 40)), 41)
        self.assertEqual(deep(read("~(" * 20 + "a" + " | b)" * 20)), 41)

    def test_long_texts(self):
        text = "abcdefgh"
        while 2 * len(text) + 5 <= 3000:
            text = f"({text} & {text})"
        self.assertEqual(shown(read(text)), text)


class Refused(unittest.TestCase):
    def place_of(self, text):
        with self.assertRaises(NoText, msg=repr(text)) as caught:
            read(text)
        self.assertIs(type(caught.exception.at), int)
        return caught.exception.at

    def test_told_places(self):
        for text, at in REFUSED:
            self.assertEqual(self.place_of(text), at, repr(text))

    def test_kind_of_the_refusal(self):
        for text in ("", "(a", "a b", "A"):
            with self.assertRaises(KenError) as caught:
                read(text)
            self.assertIsInstance(caught.exception, ValueError)
            for name in ("NoWorlds", "NoRule", "NoLine", "NoKind", "NoTurning", "Large", "NotShown", "Twice",
                         "NoWish", "NoRow"):
                self.assertNotIsInstance(caught.exception, getattr(errors, name))

    def test_all_short_texts(self):
        going = [""]
        for length in range(1, 7):
            longer = [text + sign for text in going for sign in "ab0~()&|> A1\t\n"]
            going = [text for text in longer if goes_on(text)]
            kept = set(going)
            for text in longer:
                if is_whole(text):
                    read(text)
                else:
                    self.assertEqual(self.place_of(text), length if text in kept else length - 1, repr(text))

    def test_what_follows_a_bad_sign_changes_nothing(self):
        for text, at in REFUSED:
            if at < len(text):
                for more in ("", "a", " & b)", ")", "A", " "):
                    self.assertEqual(self.place_of(text[:at + 1] + more), at, repr(text))

    def test_each_beginning_of_a_text(self):
        for statement in random_statements(10, 40, 99):
            text = shown(("both", statement, A))
            for at in range(len(text)):
                self.assertEqual(self.place_of(text[:at]), at)

    def test_bad_signs_anywhere(self):
        chance = random.Random(11)
        for statement in random_statements(12, 40, 99):
            text = shown(statement)
            for at in range(len(text) + 1):
                for sign in chance.sample("AZ19\t\n\r@`{[!-_.", 2):
                    self.assertEqual(self.place_of(text[:at] + sign + text[at:]), at)
                    self.assertEqual(self.place_of(text[:at] + sign + text[at + 1:]), at)

    def test_refused_the_same_way_again(self):
        self.assertEqual([self.place_of("(a & b") for number in range(3)], [6, 6, 6])
        self.assertEqual(read("(a & b)"), ("both", A, B))


if __name__ == "__main__":
    unittest.main()
