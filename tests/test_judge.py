"""Promise 34, and 7 as far as it speaks of it: patterns judged."""

import unittest

from atomglass.errors import Unfit
from atomglass.faults import fault
from atomglass.judge import judged
from atomglass.pattern import Pattern
from atomglass.threads import Threads
from atomglass.walker import Walker
from tests.behind_texts import all_unlike_pairs, behind, followed, goes_round_twice, unlike
from tests.small_patterns import PLAIN, UNFIT, made, small_patterns, texts_over
from tests.things import rng

TEXTS = list(texts_over("abc\n", 4))

LINES = [
    "", "a", "ab", "a|b", "a?", "a*", "a*~", "a+", "(a|b)*", "(ab|ba)*", "a*b*", "a*b*c*", "(a*b)*", "(x:a|b)*c", "(:)",
    "a{2,4}", "a{0,3}~", "(ab){2,}", "[ab]*c", "[^a]*a", "(#a:a)|b", "|a", "(a?b){3}", "((a|b)c)*", "a|b|c|d|", "(ab*)*",
    "a*a", "(a|b)*ab?", ".*b", "(a|b)*a", "(a|b)*a(a|b)", "(a|b)*~a.", "a*b|a*c", "ab|ac|abc",
]
TWICES = [
    "a|a", "()?", "(|)", "a|(#a:A)", "a*a*", "a?a?", "(a|ab)(b|)", "(a{1,2}){2}", "[ab]|[bc]", ".*b.*",
    "((:a)|(:a))b*", "b*(a|a)", "a*b*a*b*", "(){0,2}", "a*(){0,1}", "(|)a*", "(a|b)*a(a|b)*", "(a|b)*a?",
]
WILDS = [
    "(a|a)*", "(a|a)+", "(a+)+", "(a|aa)*", "(ab?b?)*", "(a|b|ab)*", "([ab]|[bc])*", "c(a|a)*", "(b(a+)+)*c", "(a{1,2})*",
    "a*(b|b|c)*", "(a(|))*", "(.|a)*", "(x:(y:a)|a)*~", "((a|ab)(c|bc))*", "((a|b)*b)*", "(()?a)*", "(a(){0,1})*",
]


def by_chance(seed, many, signs, most_rows):
    """Plain patterns drawn by chance, and those of them gone round any number of times, where that is no fault."""
    drawn = small_patterns(rng(seed), many, PLAIN + ["flags"], signs, most_rows=most_rows - 2)
    rounds = [("many", pattern.tree, 0, None, "most") for pattern in drawn]
    return drawn + [Pattern(tree) for tree in rounds if fault(tree) is None]


class Judging(unittest.TestCase):
    def assert_twice(self, code, told):
        word, text, row, one, other = told
        self.assertEqual(word, "twice")
        self.assertTrue(unlike(one, other), told)
        self.assertIn(row, followed(code, 0, text, one), told)
        self.assertIn(row, followed(code, 0, text, other), told)

    def assert_wild(self, code, told):
        word, head, body, row, lead, one, other = told
        self.assertEqual(word, "wild")
        self.assertGreater(len(body), 0)
        self.assertTrue(unlike(one, other), told)
        self.assertIn(row, followed(code, 0, head, lead), told)
        for choices in (one, other):
            self.assertIn(row, followed(code, row, body, choices), told)
            self.assertIn(row, followed(code, 0, head + body, lead + choices), told)

    def assert_right(self, pattern, texts=TEXTS):
        """What is told is held against all routes behind texts; tells the word."""
        code, told = pattern.code(), judged(pattern)
        self.assertIsInstance(told, tuple)
        if told[0] == "line":
            self.assertEqual(told, ("line", sorted(all_unlike_pairs(code, "abcdABC\n"))), pattern.tree)
        elif told[0] == "twice":
            self.assert_twice(code, told)
            reached = {row for text in texts for row, _ in behind(code, [(0, ())], text)}
            wild = [(row, text) for row in reached for text in texts if goes_round_twice(code, row, text)]
            self.assertEqual(wild, [], pattern.tree)
        else:
            self.assert_wild(code, told)
        return told[0]

    def test_written_patterns(self):
        for word, written in (("line", LINES), ("twice", TWICES), ("wild", WILDS)):
            for text in written:
                self.assertEqual(self.assert_right(made(text)), word, text)

    def test_lines_by_hand(self):
        self.assertEqual(judged(made("a")), ("line", []))
        # 0 fork 1 3, 1 read a, 2 go 0, 3 done
        self.assertEqual(judged(made("a*")), ("line", [(1, 3)]))
        # 0 fork 1 3, 1 read a, 2 go 4, 3 read b, 4 done
        self.assertEqual(judged(made("a|b")), ("line", [(1, 3)]))
        # 0 fork 1 2, 1 read a, 2 read b, 3 done
        self.assertEqual(judged(made("a?b")), ("line", [(1, 2)]))
        # 0 fork 1 5, 1 open 1, 2 read a, 3 close 1, 4 go 8, 5 open 2, 6 read b, 7 close 2, 8 done
        self.assertEqual(judged(made("(:a)|(:b)")), ("line", [(1, 5), (1, 6), (2, 5), (2, 6)]))
        # 0 fork 1 4, 1 read a, 2 read b, 3 go 6, 4 read a, 5 read c, 6 done
        self.assertEqual(judged(made("ab|ac")), ("line", [(1, 4), (2, 5)]))
        # 0 fork 1 3, 1 read a, 2 go 6, 3 fork 4 6, 4 read b, 5 go 3, 6 done
        self.assertEqual(judged(made("a|b*")), ("line", [(1, 3), (1, 4), (1, 6), (4, 6)]))

    def test_plain_patterns_by_chance(self):
        words = []
        for pattern in by_chance(34, 240, "ab", 14):
            words.append(self.assert_right(pattern))
        for word in ("line", "twice", "wild"):
            self.assertGreater(words.count(word), 30)

    def test_more_patterns_that_are_told_to_be_twice_or_wild(self):
        found = 0
        for pattern in by_chance(341, 300, "abc", 60):
            told = judged(pattern)
            if told[0] == "twice":
                self.assert_twice(pattern.code(), told)
                found += 1
            elif told[0] == "wild":
                self.assert_wild(pattern.code(), told)
                found += 1
        self.assertGreater(found, 100)

    def test_sets_that_hold_no_sign(self):
        for written, wanted in (
            ("[^\\n-~]", ("line", [])),
            ("[^\\n-~]a|b", ("line", [(1, 4)])),
            ("[^\\n-~](a|a)", ("line", [])),
            ("[^\\n-~](a|a)*", ("line", [])),
            ("[^\\n-~]|[^\\n-~]", ("line", [(1, 3)])),
            ("[^\\n-~]*[^\\n-~]*", ("line", [(1, 3), (1, 4), (1, 6), (4, 6)])),
            ("(a[^\\n-~]|a)b", ("line", [(1, 4), (2, 5)])),
            ("([^\\n-~]|a)*", ("line", [(1, 6), (2, 4), (2, 6), (4, 6)])),
        ):
            pattern = made(written)
            self.assertEqual(judged(pattern), wanted, written)
            self.assert_right(pattern)
        self.assertEqual(judged(made("([^\\n-~]|a|a)*"))[0], "wild")
        self.assertEqual(judged(made("[^\\n-~](a|a)*|b*b*"))[0], "twice")

    def test_reads_that_no_text_comes_to(self):
        # Behind a set that holds nothing there is no text, so what would be wild there is none.
        self.assertEqual(judged(made("a[^\\n-~](a|aa)*b|c")), ("line", [(1, 12)]))
        self.assertEqual(judged(made("(a|a)[^\\n-~](b|b)*"))[0], "twice")
        self.assertEqual(judged(made("(a([^\\n-~]|b))*"))[0], "line")

    def test_signs_that_both_read_are_any_sign_of_both(self):
        for written, sign in (("[a-m]|[m-z]", "m"), ("\\n|[^ -~]", "\n"), ("[^a]|[^b-z]", None), ("[\\n-~]|\\~", "~")):
            told = judged(made(written))
            self.assertEqual(told[0], "twice")
            self.assertEqual(len(told[1]), 1)
            if sign is not None:
                self.assertEqual(told[1], sign)
        self.assertEqual(judged(made("[a-l]|[m-z]"))[0], "line")
        self.assertEqual(judged(made("[a-l]|[M-Z]|(#a:x)"))[0], "twice")

    def test_texts_of_more_than_400_signs(self):
        pattern = made("(a{12}a{11})*b|a(a{12}a{12})*b")
        told = judged(pattern)
        self.assertEqual(told[0], "twice")
        self.assertGreater(len(told[1]), 400)
        self.assert_twice(pattern.code(), told)
        pattern = made("((a{12}a{10})*b|a(a{12}a{11})*b)*")
        told = judged(pattern)
        self.assertEqual(told[0], "wild")
        self.assertGreater(len(told[2]), 400)
        self.assert_wild(pattern.code(), told)
        # The head alone is short; but for wild it is looked from the fork, whatever stands ahead.
        pattern = made("a{20}b{10}(a|a)*")
        told = judged(pattern)
        self.assertEqual(told[1][:30], "a" * 20 + "b" * 10)
        self.assert_wild(pattern.code(), told)

    def test_wild_goes_ahead_of_twice(self):
        for written in ("(a|a)(b|b)*", "(b|b)*(a|a)", "a*a*(b|b)*", "()?(a|a)*", "(a|a)|c(b|b)*", "a*a*a*a*b(c?c?c)*"):
            pattern = made(written)
            self.assert_wild(pattern.code(), judged(pattern))


class Refusals(unittest.TestCase):
    def assert_unfit(self, pattern, word):
        with self.assertRaises(Unfit) as caught:
            judged(pattern)
        self.assertEqual(caught.exception.word, word)

    def test_the_first_row_that_is_not_plain(self):
        for written, word in UNFIT:
            self.assert_unfit(made(written), word)

    def test_sixty_rows_and_sixty_one(self):
        for written, rows in (
            ("a{20}" * 2 + "a{19}", 60), ("a{20}" * 3, 61), ("a*" * 19 + "ab", 60), ("a*" * 20, 61), ("a{20}" * 5, 101),
            ("|".join("abcdefghijklmnopqrst"), 59), ("(a{20}){14}", 281),
        ):
            pattern = made(written)
            self.assertEqual(len(pattern.code()), rows)
            if rows <= 60:
                self.assertIn(judged(pattern)[0], ("line", "twice"))
            else:
                self.assert_unfit(pattern, "long")

    def test_not_plain_goes_ahead_of_long(self):
        for written, word in (("a{20}" * 5 + "@<", "edge"), ("(!a)" + "a{20}" * 5, "once"), ("(a{20}){3}(>b)@<", "look")):
            self.assertGreater(len(made(written).code()), 60)
            self.assert_unfit(made(written), word)


class Toil(unittest.TestCase):
    def test_in_a_line_toil_is_what_ends_enters(self):
        lines = [made(written) for written in LINES]
        lines += [pattern for pattern in by_chance(347, 100, "ab", 40) if judged(pattern)[0] == "line"]
        self.assertGreater(len(lines), 60)
        for pattern in lines:
            for text in list(texts_over("ab", 3)) + ["abababbbaaab", "cccabcaaa", "a" * 30]:
                walker, threads = Walker(pattern, text), Threads(pattern, text)
                for at in (0, len(text) // 2, len(text)):
                    threads.ends(at)
                    self.assertEqual(walker.toil(at), threads.entered, (pattern.tree, text, at))
                    self.assertLessEqual(walker.toil(at), len(pattern.code()) * (len(text) + 1 - at))

    def test_in_a_wild_one_toil_doubles_with_each_body(self):
        wilds = [made(written) for written in WILDS]
        wilds += [pattern for pattern in by_chance(348, 150, "ab", 25) if judged(pattern)[0] == "wild"]
        self.assertGreater(len(wilds), 40)
        for pattern in wilds:
            _, head, body, *_ = judged(pattern)
            for many in range(6 if len(body) <= 2 else 3):
                toil = Walker(pattern, head + body * many).toil(0, most=10 ** 6)
                self.assertGreaterEqual(toil, 2 ** many, (pattern.tree, many))


class AskedAgain(unittest.TestCase):
    def test_answers_stay_the_same(self):
        patterns = [made(written) for written in LINES[:6] + TWICES[:4] + WILDS[:4]]
        before = [judged(pattern) for pattern in patterns]
        codes = [pattern.code() for pattern in patterns]
        for _ in range(2):
            for pattern, told in reversed(list(zip(patterns, before))):
                with self.assertRaises(Unfit):
                    judged(made("@<"))
                self.assertEqual(judged(pattern), told)
        self.assertEqual([pattern.code() for pattern in patterns], codes)

    def test_told_lists_are_the_askers_own(self):
        pattern = made("(a|b)*")
        told = judged(pattern)
        told[1].clear()
        self.assertEqual(judged(pattern), ("line", [(1, 6), (2, 4), (2, 6), (4, 6)]))
        self.assertEqual(judged(Pattern(pattern.tree))[1], judged(pattern)[1])


if __name__ == "__main__":
    unittest.main()
