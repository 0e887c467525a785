"""Promises 30 and 31 (and 5 as far as it speaks of the table, 2, 3 and 4 for them)."""

import unittest
from unittest import mock

from atomglass.errors import NoPlace, Unfit
from atomglass.plain import PlainCode
from atomglass.table import MOST_STATES, Table
from atomglass.threads import Threads
from atomglass.walker import Walker
from tests.small_patterns import PLAIN, UNFIT, made, small_patterns, texts_over
from tests.things import ORDER, no_places, rng
from tests.tree_ways import Meaning

WORDS = PLAIN + ["flags"]
BOUNDS = (1, 2, 40, 400)


class Refused(unittest.TestCase):
    def test_the_first_row_that_is_not_plain(self):
        for written, word in UNFIT:
            for more in ({}, {"most": 1}, {"most": 400}):
                with self.assertRaises(Unfit) as caught:
                    Table(made(written), **more)
                self.assertEqual(caught.exception.word, word, written)

    def test_plain_ones_are_taken(self):
        for written in ("", "a", "(x:a)", "a|b", "a*", "a+~", "(#al:.a)", "[^a]{3,4}", "(y:(:a)*b){2}"):
            self.assertEqual(Table(made(written)).kept(), 0)

    def test_no_place_of_whatever_it_is(self):
        for text in ("", "aab"):
            table = Table(made("a*b?"))
            table.takes("ab")
            kept = table.kept()
            for thing in no_places(text):
                with self.assertRaises(NoPlace) as caught:
                    table.stop(text, thing)
                self.assertIs(caught.exception.at, thing)
                self.assertEqual(table.kept(), kept)


class Told(unittest.TestCase):
    def assert_stop(self, pattern, text, *stops):
        """Where the first way at each place in turn ends."""
        for most in BOUNDS:
            table = Table(made(pattern), most=most)
            self.assertEqual([table.stop(text, at) for at in range(len(text) + 1)], list(stops), (pattern, text))

    def test_stop_by_hand(self):
        self.assert_stop("a", "ab", 1, None, None)
        self.assert_stop("", "ab", 0, 1, 2)
        self.assert_stop("a|ab", "ab", 1, None, None)
        self.assert_stop("ab|a", "ab", 2, None, None)
        self.assert_stop("ab|a", "aa", 1, 2, None)
        self.assert_stop("a*", "aab", 2, 2, 2, 3)
        self.assert_stop("a*~", "aab", 0, 1, 2, 3)
        self.assert_stop("a*~b", "aab", 3, 3, 3, None)
        self.assert_stop("(a|ab)(c|bcd)", "abcd", 4, None, None, None, None)
        self.assert_stop("(ab|a)(bcd|c)", "abcd", 3, None, None, None, None)
        self.assert_stop("a{1,2}~a*", "aaa", 3, 3, 3, None)
        self.assert_stop("(a|b)*a", "aba", 3, 3, 3, None)
        self.assert_stop("(aab|a)|aa", "aab", 3, 2, None, None)
        self.assert_stop("(aac|a)|aa", "aab", 1, 2, None, None)

    def test_the_first_way_is_not_the_longest_and_not_the_shortest(self):
        # A longer option behind a shorter one that is taken is never heard of; one ahead of it is, when it is taken.
        self.assert_stop("a|abb|abbb", "abbb", 1, None, None, None, None)
        self.assert_stop("abbbb|ab|abb|a", "abbb", 2, None, None, None, None)
        self.assert_stop("(a|abb)b?", "abbb", 2, None, None, None, None)

    def test_takes_by_hand(self):
        for most in BOUNDS:
            for written, taken, others in (
                ("a", ["a"], ["", "b", "aa"]),
                ("", [""], ["a", "\n"]),
                ("a|ab", ["a", "ab"], ["", "abb"]),
                ("a*~", ["", "a", "aaa"], ["b", "ab"]),
                ("(a|ab)(c|bcd)", ["ac", "abcd", "abc", "abbcd"], ["abcdd", "a"]),
                (".*", ["", "ab"], ["a\n"]),
                ("(#l:.*)", ["", "a\n"], []),
                ("[^\\n-~]", [], ["", "a"]),
            ):
                table = Table(made(written), most=most)
                for text in taken:
                    self.assertIs(table.takes(text), True, (written, text))
                for text in others:
                    self.assertIs(table.takes(text), False, (written, text))

    def test_takes_looks_beyond_the_first_way(self):
        table = Table(made("a|ab"))
        self.assertEqual((table.stop("ab", 0), table.takes("ab"), table.stop("ab", 0)), (1, True, 1))

    def test_as_the_walker_tells(self):
        chance = rng(30)
        for pattern in small_patterns(chance, 120, WORDS):
            table = Table(pattern)
            for text in texts_over("ab", 4):
                walker = Walker(pattern, text)
                for at in range(len(text) + 1):
                    way = walker.first(at)
                    self.assertEqual(table.stop(text, at), way and way.end, (pattern.tree, text, at))
                self.assertIs(table.takes(text), len(text) in [way.end for way in walker.ways(0)])

    def test_as_the_tree_tells(self):
        chance = rng(32)
        for pattern in small_patterns(chance, 200, WORDS, "abAB\n"):
            table = Table(pattern, most=3)
            for _ in range(3):
                text = "".join(chance.choices("abAB\n~", k=chance.randrange(7)))
                meaning = Meaning(pattern.tree, text)
                for at in range(len(text) + 1):
                    ends = [end for end, spans, choices in meaning.ways(at)]
                    self.assertEqual(table.stop(text, at), ends[0] if ends else None)
                    if at == 0:
                        self.assertIs(table.takes(text), len(text) in ends)

    def test_all_signs(self):
        table = Table(made("[b-y]|[A-C]x"))
        for sign in ORDER:
            self.assertIs(table.takes(sign), "b" <= sign <= "y")
            self.assertIs(table.takes(sign + "x"), sign in "ABC")

    def test_long_texts_are_answered_at_once(self):
        text = "a" * 399 + "b"
        for written in ("(a|a)*b", "a*a*a*a*b", "(a|aa)*b", "(a?){20}a*b"):
            for most in BOUNDS:
                table = Table(made(written), most=most)
                self.assertEqual([table.stop(text, at) for at in range(0, 400, 57)], [400] * 8)
                self.assertIs(table.takes(text), True)
                self.assertIs(table.takes(text[:-1]), False)
                self.assertIs(table.takes(text + "b"), False)
                self.assertEqual(table.stop(text, 0), Threads(made(written), text).first(0).end)


class Kept(unittest.TestCase):
    def test_bounds(self):
        self.assertEqual(MOST_STATES, 40)
        chance = rng(31)
        # Its states tell the last nine signs: there are very many of them.
        pattern = made("(a|b)*a(a|b){8}")
        for most in BOUNDS:
            table = Table(pattern, most=most)
            self.assertEqual(table.kept(), 0)
            for _ in range(12):
                text = "".join(chance.choices("ab", k=120))
                told = (table.takes(text), table.stop(text, 7))
                self.assertLessEqual(table.kept(), most)
                self.assertIs(told[0], text[-9] == "a")
                rest = [at + 9 for at in range(7, 112) if text[at] == "a"]
                self.assertEqual(told[1], rest[-1] if rest else None)

    def test_forty_where_it_is_left_out(self):
        table = Table(made("(a|b)*a(a|b){8}"))
        chance = rng(33)
        for _ in range(40):
            table.takes("".join(chance.choices("ab", k=60)))
            self.assertLessEqual(table.kept(), 40)

    def test_never_above_most_and_nothing_hangs_on_it(self):
        chance = rng(34)
        for pattern in small_patterns(chance, 60, WORDS):
            tables = [Table(pattern, most=most) for most in (1, 2, 3, 40, 400)]
            for _ in range(8):
                text = "".join(chance.choices("ab", k=chance.randrange(9)))
                at = chance.randrange(len(text) + 1)
                fresh = Table(pattern)
                told = (fresh.stop(text, at), fresh.takes(text))
                for table in tables:
                    first = table.stop(text, at)
                    self.assertLessEqual(table.kept(), table.most)
                    self.assertEqual((first, table.takes(text)), told)
                    self.assertLessEqual(table.kept(), table.most)

    def test_what_was_found_out_is_kept(self):
        table = Table(made("(a|b)*a(a|b)"))
        told = (table.takes("abab"), table.stop("abab", 0))
        self.assertGreater(table.kept(), 0)
        with mock.patch.object(PlainCode, "next_stand", side_effect=AssertionError("found out again")):
            self.assertEqual((table.takes("abab"), table.stop("abab", 0)), told)

    def test_two_tables_know_nothing_of_each_other(self):
        one, other = Table(made("a*b")), Table(made("a*b"))
        one.takes("aaab")
        self.assertEqual(other.kept(), 0)
        self.assertEqual(other.stop("aab", 0), 3)


class NothingIsChanged(unittest.TestCase):
    def test_asked_again_in_any_order_with_refusals_in_between(self):
        chance = rng(35)
        for pattern in small_patterns(chance, 40, WORDS):
            table = Table(pattern, most=chance.choice(BOUNDS))
            texts = ["".join(chance.choices("ab", k=chance.randrange(8))) for _ in range(6)]
            askings = [(text, at) for text in texts for at in range(len(text) + 1)] * 2
            chance.shuffle(askings)
            known = {}
            for text, at in askings:
                with self.assertRaises(NoPlace):
                    table.stop(text, len(text) + 1)
                told = (table.stop(text, at), table.takes(text))
                self.assertEqual(known.setdefault((text, at), told), told)

    def test_the_pattern_stays(self):
        pattern = made("(x:a|b)*c")
        before = (pattern.code(), pattern.names(), pattern.tree)
        self.assertEqual(Table(pattern).stop("abc", 0), 3)
        self.assertEqual((pattern.code(), pattern.names(), pattern.tree), before)


if __name__ == "__main__":
    unittest.main()
