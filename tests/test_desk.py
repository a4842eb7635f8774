"""Points 31 and 32: the desk."""

import random
import unittest

from ken.decide import decide
from ken.desk import Desk
from ken.errors import KenError, Large, NoRow, NoText, NoWish, Twice
from ken.statements import parts
from ken.tables import row_against
from ken.texts import read, shown
from samples import counted, few_words, greatest, in_order, is_true


def desk_with(*texts):
    """A desk that was told these wishes."""
    desk = Desk()
    for text in texts:
        desk.say(f"wish {text}")
    return desk


NO_ROWS = [
    "", " ", "  ", "a", "wish", "drop", "ask", "plain", "wishes ", " wishes", "wishes a", "wishes\n", "wishes;",
    "wishesa", "Wish a", "WISH a", " wish a", "\twish a", "wish\ta", "wish\na", "wisha", "wish(a & b)", "wis a",
    "wishs a", "asks a", "ask\n", "ask(a)", "drops a", "dropp a", "plainly a", "shown a", "help", "wishes wish a",
    "wish;a", "drop,a", "\n", "\t", "~", "0", "(a & b)", "ok", "ok a", "exit", "plain\ta",
]

NO_TEXTS = [
    ("", 0), (" ", 0), (" a", 0), ("a ", 1), ("A", 0), ("(a", 2), ("(a & b", 6), ("(a & b))", 7), ("(a &b)", 4),
    ("(a  & b)", 3), ("a b", 1), ("abcdefghi", 8), ("~", 1), ("1", 0), ("\ta", 0), ("a\n", 1), ("(a + b)", 3),
    ("(a & )", 5), ("a; b", 1), ("00", 1), ("wish a", 4), ("(a > 0", 6),
]


class Answers(unittest.TestCase):
    def answers(self, *rows):
        """A desk answers each of these rows so."""
        desk = Desk()
        for row, answer in rows:
            told = desk.say(row)
            self.assertIs(type(told), str)
            self.assertEqual(told, answer, row)
        return desk

    def test_wishes(self):
        self.answers(("wishes", ""), ("wish a", "ok"), ("wishes", "a"), ("wish (a & b)", "ok"),
                     ("wishes", "(a & b); a"), ("wish 0", "ok"), ("wishes", "(a & b); a; 0"), ("drop a", "ok"),
                     ("wishes", "(a & b); 0"),
                     ("drop 0", "ok"), ("drop (a & b)", "ok"), ("wishes", ""), ("wish a", "ok"), ("wishes", "a"))

    def test_the_order_of_the_statements(self):
        texts = ["(a & b)", "(b & a)", "a", "ab", "b", "0", "(a | b)", "(b | a)", "(a > b)", "~a", "~b", "~~a"]
        statements = [read(text) for text in texts]
        told = "; ".join(shown(statement) for statement in in_order(statements))
        for turn in range(len(texts)):
            desk = desk_with(*texts[turn:], *texts[:turn])
            self.assertEqual(desk.say("wishes"), told)
        self.assertEqual(told, "(a & b); (b & a); a; ab; b; 0; (a | b); (b | a); (a > b); ~a; ~b; ~~a")

    def test_other_texts_of_the_same(self):
        self.answers(("wish (a > 0)", "ok"), ("wishes", "~a"), ("drop ~a", "ok"), ("wish ~~a", "ok"),
                     ("drop ((a > 0) > 0)", "ok"), ("wishes", ""))

    def test_ask(self):
        self.answers(("ask a", "open"), ("ask (a > a)", "shown"), ("ask (a | ~a)", "open"), ("ask ~~(a | ~a)", "shown"),
                     ("wish (a | b)", "ok"), ("ask a", "open"), ("ask (b | a)", "shown"), ("wish ~a", "ok"),
                     ("ask b", "shown"), ("ask a", "open"), ("drop (a | b)", "ok"), ("ask b", "open"), ("wish 0", "ok"),
                     ("ask c", "shown"), ("ask 0", "shown"), ("drop 0", "ok"), ("ask 0", "open"), ("wishes", "~a"))

    def test_plain(self):
        self.answers(("plain (a | ~a)", "yes"), ("plain (((a > b) > a) > a)", "yes"), ("plain a", "no"),
                     ("plain ~a", "no a"), ("plain 0", "no"), ("plain (a > b)", "no a"), ("wish a", "ok"),
                     ("plain b", "no a"),
                     ("plain a", "yes"), ("wish b", "ok"), ("plain (c | ~(a & b))", "no a b"), ("wish ~b", "ok"),
                     ("plain c", "yes"), ("drop ~b", "ok"), ("drop b", "ok"), ("plain (a > b)", "no a"))

    def test_plain_with_any_row(self):
        desk = desk_with("(a | b)", "(c > d)")
        for text in ("a", "(a & b)", "d", "(a > c)", "~(a & b)", "((c | d) > e)"):
            word, *words = desk.say(f"plain {text}").split(" ")
            self.assertEqual(word, "no")
            self.assertEqual(words, sorted(set(words)))
            self.assertTrue(is_true(read("((a | b) & (c > d))"), words))
            self.assertFalse(is_true(read(text), words))

    def test_questions_change_nothing(self):
        desk = desk_with("(a | b)", "~a")
        for text in ("a", "b", "(c | ~c)"):
            for row in (f"ask {text}", f"plain {text}", "wishes"):
                self.assertEqual(desk.say(row), desk.say(row))
        self.assertEqual(desk.say("wishes"), "(a | b); ~a")

    def test_two_desks(self):
        one, other = Desk(), Desk()
        one.say("wish a")
        self.assertEqual((one.say("wishes"), other.say("wishes")), ("a", ""))
        other.say("wish b")
        other.say("wish a")
        one.say("drop a")
        self.assertEqual((one.say("wishes"), other.say("wishes")), ("", "a; b"))
        self.assertEqual((one.say("ask b"), other.say("ask b")), ("open", "shown"))
        self.assertEqual(Desk().say("wishes"), "")

    def test_many(self):
        """Many rows, beside a list of wishes that is kept here."""
        chance = random.Random(1)
        for number in range(25):
            desk, kept = Desk(), []
            for row in range(60):
                statement = few_words(chance, chance.choice((1, 1, 3, 3, 5)), "ab")
                if kept and chance.random() < 0.3:
                    statement = chance.choice(kept)
                word = chance.choice(("wish", "wish", "drop", "ask", "plain"))
                self.assertEqual(self.said(desk, f"{word} {shown(statement)}"), self.told(word, statement, kept))
                self.assertEqual(desk.say("wishes"), "; ".join(shown(wish) for wish in in_order(kept)))

    def said(self, desk, row):
        """What the desk answers, or the class by which it refuses the row; of a row against it no words."""
        try:
            answer = desk.say(row)
        except KenError as refusal:
            return type(refusal)
        return "no" if answer.startswith("no") else answer

    def told(self, word, statement, kept):
        """What it should answer, and the wishes change as they should."""
        if word == "wish":
            if statement in kept:
                return Twice
            kept.append(statement)
            return "ok"
        if word == "drop":
            if statement not in kept:
                return NoWish
            kept.remove(statement)
            return "ok"
        if sum(counted(one)[0] for one in kept + [statement]) > 24:
            return Large
        if word == "ask":
            return "shown" if decide(kept, statement)[0] == "lines" else "open"
        return "yes" if row_against(kept, statement) is None else "no"


class Refusals(unittest.TestCase):
    def refused(self, error, row, *wishes):
        """A desk with these wishes refuses the row so, and nothing changes."""
        desk = desk_with(*wishes)
        before = desk.say("wishes")
        caught = []
        for again in range(2):
            with self.assertRaises(KenError) as refusal:
                desk.say(row)
            caught.append(refusal.exception)
            self.assertIs(type(refusal.exception), error, row)
            self.assertIsInstance(refusal.exception, ValueError)
            self.assertEqual(desk.say("wishes"), before)
        self.assertEqual(desk.say("wish zz"), "ok")
        return caught[0]

    def test_rows_that_are_none(self):
        for row in NO_ROWS:
            self.refused(NoRow, row)
            self.refused(NoRow, row, "a", "(a & b)")

    def test_text_that_is_none(self):
        for word in ("wish", "drop", "ask", "plain"):
            for text, at in NO_TEXTS:
                refusal = self.refused(NoText, f"{word} {text}", "a", "~~b")
                self.assertEqual(refusal.at, at, (word, text))

    def test_twice(self):
        for text, wishes in (("a", ("a",)), ("~a", ("~a",)), ("(a > 0)", ("~a",)), ("~a", ("(a > 0)",)),
                             ("0", ("a", "0")), ("((a > 0) & b)", ("(~a & b)",)), ("(~a > 0)", ("b", "~~a", "c")),
                             ("(a & b)", ("b", "(a & b)"))):
            self.refused(Twice, f"wish {text}", *wishes)
        desk = desk_with("a")
        desk.say("drop a")
        self.assertEqual(desk.say("wish a"), "ok")

    def test_no_wish(self):
        for text, wishes in (("a", ()), ("a", ("b",)), ("a", ("(a & a)", "~a", "ab")), ("(a & b)", ("a", "b")),
                             ("(b & a)", ("(a & b)",)), ("0", ("~0",)), ("(a > 0)", ("a",))):
            self.refused(NoWish, f"drop {text}", *wishes)
        desk = desk_with("a", "b")
        desk.say("drop a")
        with self.assertRaises(NoWish):
            desk.say("drop a")
        self.assertEqual(desk.say("wishes"), "b")

    def test_too_many_parts(self):
        for statement, wishes, large in (
                ("a", ("((((a & b) & (a & b)) & ((a & b) & (a & b))) & ((a & b) & (a & b)))",), False),
                ("(a & b)", ("((((a & b) & (a & b)) & ((a & b) & (a & b))) & ((a & b) & (a & b)))",), True),
                ("a", ("(a & (a & (a & (a & (a & (a & (a & (a & (a & (a & (a & a)))))))))))",), False),
                ("a", ("(a & (a & (a & (a & (a & (a & (a & (a & (a & (a & (a & a)))))))))))", "a"), True),
                ("a", ("(a & (a & (a & (a & (a & (a & (a & (a & (a & (a & (a & a)))))))))))", "b"), True),
                ("~~~~~~~~~~~a", (), False), ("~~~~~~~~~~~~a", (), True),
                ("(a | b)", tuple("abcdefghijkl") + ("~~a", "~0", "0"), False),
                ("(a | b)", tuple("abcdefghijkl") + ("~~a", "~0", "0", "m"), True)):
            whole = sum(parts(read(text)) for text in wishes + (statement,))
            self.assertEqual(whole > 24, large, (whole, statement, wishes))
            if large:
                self.assertIn(whole, (25, 26))
                self.refused(Large, f"ask {statement}", *wishes)
                self.refused(Large, f"plain {statement}", *wishes)
            else:
                self.assertIn(desk_with(*wishes).say(f"ask {statement}"), ("shown", "open"))
                self.assertIn(desk_with(*wishes).say(f"plain {statement}")[:2], ("ye", "no"))

    def test_the_statement_counts_though_it_is_a_wish(self):
        desk = desk_with("~~~~~a", "b")
        self.assertEqual(desk.say("ask ~~~~~a"), "shown")
        self.assertEqual(desk_with("~~~~~a").say("plain ~~~~~a"), "yes")
        self.refused(Large, "ask (a & (a & (a & (a & (a & (a & a))))))", "(a & (a & (a & (a & (a & (a & a))))))")

    def test_too_many_letters(self):
        words = [f"{one}{two}" for one in "abcd" for two in "xyz"]
        for statement, wishes, large in (("ax", words, False), ("a", words, True), ("(ax | bx)", words[:-1], False),
                                         ("m", list("abcdefghijkl"), True), ("l", list("abcdefghijkl"), False),
                                         ("0", list("abcdefghijklm"), True), ("0", list("abcdefghijkl"), False),
                                         ("(l & (m & n))", list("abcdefghijk"), True),
                                         ("(l & a)", list("abcdefghijk"), False)):
            desk = desk_with(*wishes)
            self.assertIn(desk.say(f"ask {statement}"), ("shown", "open"))
            if large:
                self.refused(Large, f"plain {statement}", *wishes)
            else:
                self.assertIn(desk.say(f"plain {statement}")[:2], ("ye", "no"))
        self.assertEqual(desk_with(*words).say("plain 0"), "no " + " ".join(words))

    def test_wishes_are_kept_however_many_parts_they_have(self):
        desk = Desk()
        for number in range(40):
            self.assertEqual(desk.say(f"wish (a & {'ab'[number % 2]}{'cdefghijklmnopqrstuvwxyz'[number // 2]})"), "ok")
        self.assertEqual(len(desk.say("wishes").split("; ")), 40)
        with self.assertRaises(Large):
            desk.say("ask a")
        self.assertEqual(desk.say(f"wish {shown(greatest())}"), "ok")
        self.assertEqual(desk.say(f"drop {shown(greatest())}"), "ok")

    def test_the_first_refusal_told(self):
        great = ("(a & (a & (a & (a & (a & (a & (a & (a & (a & (a & (a & a)))))))))))", "b", "c")
        # No row, though its text is none either; no text, though there are too many parts, or no such wish.
        self.refused(NoRow, "asks (a", *great)
        self.refused(NoRow, "wishes (a", *great)
        self.refused(NoRow, "ask", *great)
        for word in ("ask", "plain", "wish", "drop"):
            self.refused(NoText, f"{word} (a", *great)
            self.refused(NoText, f"{word} ", *great)
        self.refused(Twice, "wish b", *great)
        self.refused(NoWish, "drop d", *great)
        self.refused(Large, "plain (((((l & m) & (n & o)) & ((p & q) & (r & s))) & (t & u)) & ((v & w) & x))", "y", "z")


if __name__ == "__main__":
    unittest.main()
