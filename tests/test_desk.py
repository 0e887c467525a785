"""Promise 43: desks."""

import unittest

from atomglass.compare import compared
from atomglass.desk import Desk
from atomglass.errors import Bad, GlassError, NoName, NoPattern, NoRow, NoTemplate, TooMany, TooMuch, Unfit
from atomglass.finds import finds, pieces
from atomglass.judge import judged
from atomglass.plainer import plainer
from atomglass.templates import replaced
from atomglass.writer import show_pattern
from tests.small_patterns import UNFIT, made
from tests.things import SMALL, no_strings, rng

SLOW = "(a|a)*b"
LONG = "a" * 40


def told_desk(*rows):
    """A desk to which rows were said, each of them right."""
    desk = Desk()
    for row in rows:
        assert desk.say(row) == "ok"
    return desk


class DeskCase(unittest.TestCase):
    def assert_said(self, desk, *rows):
        for row, wanted in rows:
            told = desk.say(row)
            self.assertEqual(told, wanted, row)
            self.assertIs(type(told), str)

    def assert_refused(self, desk, row, error, **fields):
        """Refused, and behind it the names and the text are as they were."""
        before = self.seen(desk)
        with self.assertRaises(error) as caught:
            desk.say(row)
        self.assertIs(type(caught.exception), error)
        self.assertEqual(vars(caught.exception), fields, row)
        self.assertEqual(self.seen(desk), before)

    def seen(self, desk):
        """The names, what each of them stands for, and the text, as far as a desk tells them."""
        names = desk.say("names")
        told = [names]
        for name in names.split() if names != "none" else []:
            told.append(desk.say("plain " + name))
            try:
                told.append((desk.say("all " + name), desk.say("fill " + name + " <&0;>")))
            except TooMuch:
                told.append("too much")
        return told


class Names(DeskCase):
    def test_at_first(self):
        self.assert_said(Desk(), ("names", "none"), ("let a b", "ok"), ("all a", "none"), ("fill a x", ""), ("pieces a", "0"))

    def test_their_order(self):
        desk = Desk()
        self.assert_said(
            desk, ("let b x", "ok"), ("names", "b"), ("let a y", "ok"), ("let c z", "ok"), ("names", "b a c"),
            ("let b y", "ok"), ("names", "b a c"), ("drop b", "ok"), ("names", "a c"), ("let b x", "ok"), ("names", "a c b"),
            ("let a x", "ok"), ("names", "a c b"), ("drop c", "ok"), ("drop a", "ok"), ("drop b", "ok"), ("names", "none"),
            ("let c a", "ok"), ("let a a", "ok"), ("names", "c a"),
        )

    def test_told_anew(self):
        desk = told_desk("on abc", "let x a")
        self.assert_said(desk, ("all x", "0-1"), ("let x b", "ok"), ("all x", "1-2"), ("plain x", "b"), ("drop x", "ok"))
        self.assert_refused(desk, "all x", NoName, name="x")
        self.assert_said(desk, ("let x c", "ok"), ("all x", "2-3"))

    def test_names_of_one_letter_and_of_eight(self):
        desk = told_desk("let a a", "let abcdefgh b", "let let c", "let none d", "let names e", "let drop f")
        self.assert_said(desk, ("names", "a abcdefgh let none names drop"), ("plain let", "c"), ("drop let", "ok"),
                         ("plain names", "e"), ("drop drop", "ok"), ("names", "a abcdefgh none names"))

    def test_twenty_names(self):
        desk = told_desk(*["let " + name + " a" for name in SMALL[:20]])
        self.assert_refused(desk, "let zz a", TooMany, most=20)
        self.assert_refused(desk, "let u ", TooMany, most=20)
        # What the pattern is refused with goes first.
        self.assert_refused(desk, "let zz (", NoPattern, at=1)
        self.assert_refused(desk, "let zz (a*)*", Bad, word="empty", path=())
        self.assert_said(desk, ("let t b", "ok"), ("let a c", "ok"), ("plain t", "b"), ("names", " ".join(SMALL[:20])))
        self.assert_said(desk, ("drop b", "ok"), ("let zz d", "ok"))
        self.assert_refused(desk, "let b a", TooMany, most=20)
        self.assert_said(desk, ("names", " ".join("a" + SMALL[2:20]) + " zz"))


class Answers(DeskCase):
    def test_the_texts_of_ways(self):
        desk = told_desk("on baac", "let x a*", "let y a", "let z q", "let w baac")
        self.assert_said(
            desk, ("first x", "0-0"), ("all x", "0-0 1-3 3-3 4-4"), ("first y", "1-2"), ("all y", "1-2 2-3"),
            ("first z", "none"), ("all z", "none"), ("first w", "0-4"), ("all w", "0-4"), ("on ", "ok"), ("first x", "0-0"),
            ("all x", "0-0"), ("first y", "none"), ("all w", "none"),
        )

    def test_pieces(self):
        desk = told_desk("on a,bcd,,e", "let comma ,", "let none q", "let each ", "let any .*")
        self.assert_said(desk, ("pieces comma", "1 3 0 1"), ("pieces none", "8"), ("pieces each", "0 1 1 1 1 1 1 1 1 0"),
                         ("pieces any", "0 0 0"), ("on ", "ok"), ("pieces comma", "0"), ("pieces each", "0 0"))

    def test_fill(self):
        desk = told_desk("on 2026-11 2025-03", "let d (y:[0-9]{4})-(m:[0-9]{2})", "let e ")
        self.assert_said(
            desk, ("fill d &m;/&1;", "11/2026 03/2025"), ("fill d ", " "), ("fill d  ", "   "), ("fill d  &&  ", " &    &  "),
            ("fill d a b", "a b a b"), ("on ab", "ok"), ("fill e -", "-a-b-"), ("fill e \n", "\na\nb\n"), ("fill d x", "ab"),
        )

    def test_alike(self):
        desk = told_desk("let a a*", "let b (a|aa)*", "let c a{0,3}", "let d b*", "let e [ab ]", "let f [ab]", "let n \\n")
        self.assert_said(desk, ("alike a a", "alike 2"), ("alike a b", "alike 3"), ("alike a c", "parted aaaa"),
                         ("alike a d", "parted a"), ("alike e f", "parted  "), ("alike a e", "parted "), ("alike n f", "parted \n"))
        for one, other in (("a", "b"), ("b", "a"), ("c", "d"), ("d", "d")):
            texts = {"a": "a*", "b": "(a|aa)*", "c": "a{0,3}", "d": "b*"}
            word, what = compared(made(texts[one]), made(texts[other]))
            wanted = word + " " + (what if word == "parted" else str(len(what)))
            self.assert_said(desk, ("alike " + one + " " + other, wanted))

    def test_judge(self):
        desk = told_desk("let a a*", "let b a*a*", "let c (a|a)*")
        self.assert_said(desk, ("judge a", "line"), ("judge b", "twice"), ("judge c", "wild"))

    def test_plain(self):
        desk = told_desk("let a ((a|b){1}|c)(d()(!e))", "let b ", "let c  a b ", "let d \\n|\\&", "let e @<(x:&x;)")
        self.assert_said(desk, ("plain a", "[a-c]de"), ("plain b", ""), ("plain c", " a b "), ("plain d", "[\\n&]"),
                         ("plain e", "@<(x:&x;)"))

    def test_blanks_in_what_stands_last(self):
        desk = told_desk("on  a  b ", "let x  ", "let y   ", "let z a  b ")
        self.assert_said(desk, ("all x", "0-1 2-3 3-4 5-6"), ("all y", "2-4"), ("all z", "1-6"), ("pieces z", "1 0"),
                         ("plain x", " "), ("plain y", "  "), ("plain z", "a  b "))

    def test_line_feeds_in_a_text(self):
        desk = told_desk("on a\nb\n", "let x @^.", "let y \\n")
        self.assert_said(desk, ("all x", "0-1 2-3"), ("all y", "1-2 3-4"), ("fill y ;", "a;b;"), ("fill x &&&0;", "&a\n&b\n"))

    def test_rows_of_more_than_400_signs(self):
        desk = told_desk("on " + "a" * 400, "let abcdefgh " + "[a-z]" * 80, "let x a{20}")
        self.assert_said(
            desk, ("all x", " ".join(f"{at}-{at + 20}" for at in range(0, 400, 20))), ("all abcdefgh", "0-80 80-160 160-240 240-320 320-400"),
            ("fill x " + "b" * 400, "b" * 8000), ("fill abcdefgh " + "&&" * 200, "&" * 1000), ("plain abcdefgh", "[a-z]" * 80),
        )
        self.assert_refused(desk, "let abcdefgh " + "[a-z]" * 80 + "a", NoPattern, at=400)
        self.assert_refused(desk, "fill abcdefgh " + "&&" * 200 + "a", NoTemplate, at=400)

    def test_held_against_the_functions(self):
        patterns = ["a", "a*", "(x:a)|(y:b)", "(a|ab)(b|)", "@/", "(!a*)b", "(x:.)&x;", "b*~"]
        for written in patterns:
            for text in ("", "abba", "aab\nb", "a b"):
                desk, pattern = told_desk("let p " + written, "on " + text), made(written)
                ways = [str(way) for way in finds(pattern, text)]
                self.assert_said(
                    desk, ("all p", " ".join(ways) or "none"), ("first p", ways[0] if ways else "none"),
                    ("pieces p", " ".join(str(len(piece)) for piece in pieces(pattern, text))),
                    ("fill p <&0;>", replaced(pattern, text, "<&0;>")), ("plain p", show_pattern(plainer(pattern.tree))),
                )
                try:
                    word = judged(pattern)[0]
                except Unfit as refusal:
                    self.assert_refused(desk, "judge p", Unfit, word=refusal.word)
                else:
                    self.assert_said(desk, ("judge p", word))


class NoRows(DeskCase):
    def test_what_is_no_such_row(self):
        desk = told_desk("let a a*", "let b b", "on aab", "let names c")
        for row in [
            "", " ", "  ", "x", "let", "let ", "let a", "let  a", "let  ", "let  a b", "let A b", "let a1 b", "let abcdefghi b",
            "let a\n b", "let \n", "Let a b", " let a b", "leta b", "let\ta b", "let\na b", "on", " on a", "On a", "ona", "onto a",
            "drop", "drop ", "drop  a", "drop a ", "drop a b", "drop a\n", "drop A", "drop abcdefghi", "drop  ", " drop a",
            "names ", " names", "names a", "NAMES", "names\n", "name", "namess", "first", "first ", "first a ", "first  a", "first a b",
            "first 1", "all", "all ", "all a ", "all  a", "all a a", "alla", "pieces", "pieces ", "pieces a ", "pieces a b", "pieces a1",
            "fill", "fill ", "fill a", "fill  a", "fill  a x", "fill A x", "fill abcdefghi x", "fill _ x", "alike", "alike ", "alike a",
            "alike a ", "alike a  b", "alike  a b", "alike a b ", "alike a b a", "alike a B", "alike A b", "judge", "judge ", "judge a ",
            "judge a b", "judge  a", "plain", "plain ", "plain a ", "plain a b", "plain\na", "ok", "none", "let a-b c", "say names",
            "a", "b", "&", "on" + "a" * 400, "names" * 100, " " * 500, "x" * 1000, "first a\n", "first \na",
        ]:
            self.assert_refused(desk, row, NoRow)

    def test_what_is_no_str(self):
        for desk in (Desk(), told_desk("let a a")):
            for thing in no_strings() + [["names"], ("names",), {"names": 1}, b"names", [["let a b"]]]:
                self.assert_refused(desk, thing, NoRow)

    def test_texts_that_are_none(self):
        desk = told_desk("on ab", "let a a")
        for text in ("a" * 401, " " * 401, "a" * 5000, "\n" * 401, "a\tb", "\r"):
            self.assert_refused(desk, "on " + text, NoRow)
        for text in ("a" * 400, " " * 400, "\n" * 400, ""):
            self.assertEqual(desk.say("on " + text), "ok")
            self.assertEqual(desk.say("fill a &0;"), text)

    def test_a_row_that_is_none_goes_ahead_of_all_else(self):
        desk = told_desk(*["let " + name + " a" for name in SMALL[:20]])
        for row in ("let zz", "drop zz ", "first zz a", "alike zz a a", "fill zz", "alike zz", "let ZZ (", "alike zz Q"):
            self.assert_refused(desk, row, NoRow)


class Refused(DeskCase):
    def test_names_that_stand_for_nothing(self):
        desk = told_desk("let a a", "let b b", "drop b", "on aa")
        for row in ("drop b", "first b", "all b", "pieces b", "fill b x", "fill b ", "fill b &", "alike b a", "alike a b", "alike b c",
                    "alike b b", "judge b", "plain b"):
            self.assert_refused(desk, row, NoName, name="b")
        self.assert_refused(desk, "alike c b", NoName, name="c")
        self.assert_refused(desk, "drop names", NoName, name="names")
        self.assert_refused(Desk(), "drop a", NoName, name="a")

    def test_patterns(self):
        desk = told_desk("let a a", "on aa")
        for name in ("a", "b"):
            for row, at in (("(", 1), ("a)", 1), ("a{15,1}", 6), ("**", 0), ("a\nb", 1), ("a" * 401, 400), (" " * 401, 400)):
                self.assert_refused(desk, "let " + name + " " + row, NoPattern, at=at)
            self.assert_refused(desk, "let " + name + " (a*)*", Bad, word="empty", path=())
            self.assert_refused(desk, "let " + name + " a&x;", Bad, word="back", path=(1,))
        self.assert_said(desk, ("all a", "0-1 1-2"), ("names", "a"))

    def test_templates(self):
        desk = told_desk("let a (x:a)", "on bb")
        for template, at in (("&", 1), ("&;", 1), ("a b &", 5), ("&x", 2), ("a" * 401, 400), ("&12;", 2)):
            self.assert_refused(desk, "fill a " + template, NoTemplate, at=at)
        self.assert_refused(desk, "fill a &y;", NoName, name="y")
        self.assert_refused(desk, "fill a &1;&2;&y;", NoName, name=2)

    def test_the_walker_gives_up(self):
        desk = told_desk("let slow " + SLOW, "let a a", "on " + LONG)
        for row in ("first slow", "all slow", "pieces slow", "fill slow x"):
            self.assert_refused(desk, row, TooMuch, most=20000)
        # NoTemplate and the group's NoName go ahead of what finds is refused with.
        self.assert_refused(desk, "fill slow &", NoTemplate, at=1)
        self.assert_refused(desk, "fill slow &x;", NoName, name="x")
        # The first way would be there; but the asking is refused as finds is.
        self.assert_said(desk, ("on b" + LONG, "ok"))
        self.assert_refused(desk, "first slow", TooMuch, most=20000)
        self.assert_said(desk, ("judge slow", "wild"), ("first a", "1-2"), ("on aab", "ok"), ("first slow", "0-3"))

    def test_unfit_patterns(self):
        for written, word in UNFIT:
            desk = told_desk("let p " + written, "let q q")
            for row in ("judge p", "alike p q", "alike q p", "alike p p"):
                self.assert_refused(desk, row, Unfit, word=word)
        desk = told_desk("let p @<", "let q (!a)", "let long (a{20}){3}")
        self.assert_refused(desk, "alike p q", Unfit, word="edge")
        self.assert_refused(desk, "alike q p", Unfit, word="once")
        self.assert_refused(desk, "judge long", Unfit, word="long")
        self.assert_refused(desk, "alike p z", NoName, name="z")

    def test_too_many_pairs(self):
        desk = told_desk("let x [ab]*a[ab]{9}")
        self.assert_refused(desk, "alike x x", TooMany, most=200)


class Apart(DeskCase):
    def test_two_desks_by_turns(self):
        one, other = Desk(), Desk()
        self.assert_said(one, ("let a a", "ok"), ("on aa", "ok"))
        self.assert_said(other, ("names", "none"), ("let a b", "ok"), ("all a", "none"))
        self.assert_said(one, ("all a", "0-1 1-2"), ("drop a", "ok"))
        self.assert_said(other, ("plain a", "b"), ("names", "a"), ("on b", "ok"))
        self.assert_said(one, ("let b ", "ok"), ("all b", "0-0 1-1 2-2"))

    def test_each_answer_is_that_of_a_desk_made_anew(self):
        chance = rng(43)
        rows = [
            "let a a", "let a (x:a|b)*", "let b b|", "let b (a|a)*b", "let c (", "let c (a*)*", "let c @<a", "drop a", "drop b", "drop c",
            "on ", "on abba", "on " + LONG, "on  a b", "on " + "a" * 401, "names", "first a", "all a", "all b", "all c", "first b",
            "pieces a", "pieces b", "fill a <&0;>", "fill a &x;", "fill b &", "alike a b", "alike b a", "alike a c", "judge a", "judge b",
            "judge c", "plain a", "plain b", "nothing", "let d", None, 0, "names ",
        ]
        deeds = ("let", "on ", "drop")
        for _ in range(60):
            desk, told = Desk(), []
            for _ in range(25):
                row = chance.choice(rows)
                anew = Desk()
                for deed in told:
                    anew.say(deed)
                self.assertEqual(self.answer(desk, row), self.answer(anew, row), (told, row))
                if isinstance(row, str) and row.startswith(deeds) and self.took(told, row):
                    told.append(row)

    def answer(self, desk, row):
        """What a desk tells, or the refusal and its fields."""
        try:
            return desk.say(row)
        except GlassError as refusal:
            return (type(refusal), vars(refusal))

    def took(self, told, row):
        """Whether a desk made anew, to which rows were told, takes one more."""
        desk = Desk()
        for deed in told:
            desk.say(deed)
        return self.answer(desk, row) == "ok"


if __name__ == "__main__":
    unittest.main()
