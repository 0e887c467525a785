"""Promises 36 and 37, and 5 and 8 as far as they speak of them: texts looked through and parted."""

import unittest

from atomglass.errors import NoPlace, TooMuch, Unfit
from atomglass.finds import TABLE, THREADS, WALK, finds, pieces, put_together, spots
from atomglass.pattern import Pattern
from tests.small_patterns import FREE, PLAIN, UNFIT, made, plain_ways, small_patterns, texts_over
from tests.things import no_places, no_strings, rng
from tests.tree_ways import Meaning

TEXTS = list(texts_over("ab", 3)) + ["abba\n", "\n\nab", "aaabab", "babba b"]
WRITTEN = [
    "", "a", "a*", "a*~", "a+", "b|", "|b", "ab|a", "(x:a|b)*", "(a|ab)(b|)", "@<", "@>", "@$", "@/", "(>a)", "(<b)",
    "(<~a)b*", "(!a*)b", "a?", "(x:a)?(y:b)?", "(x:.)&x;", ".", "c", "(a|b)*~b", "a{2}", "(>~b)", "a@-", "[^a]*",
]
SLOW = "(a|a)*b"


def gone_through(tree, text, start):
    """What a plain going from place to place finds, as tuples (begin, end, spans, choices)."""
    told, place = [], start
    while place <= len(text):
        ways = Meaning(tree, text).ways(place)
        if not ways:
            place += 1
            continue
        end, spans, choices = ways[0]
        told.append((place, end, spans, choices))
        place = end + (end == place)
    return told


def shown(ways):
    return [(way.begin, way.end, way.spans, way.choices) for way in ways]


def engines_of(pattern):
    words = [row[0] for row in pattern.code()]
    told = [WALK]
    if "back" not in words:
        told.append(THREADS)
    if not {"look", "edge", "once", "kept", "back"} & set(words):
        told.append(TABLE)
    return told


class Found(unittest.TestCase):
    def assert_found(self, pattern, text):
        engines = engines_of(pattern)
        for start in range(len(text) + 1):
            wanted = gone_through(pattern.tree, text, start)
            places = [(begin, end) for begin, end, _, _ in wanted]
            self.assertEqual(shown(finds(pattern, text, start=start)), wanted, (pattern.tree, text, start))
            for engine in engines:
                self.assertEqual(spots(pattern, text, start=start, engine=engine), places, (pattern.tree, text, engine))
                if engine != TABLE:
                    self.assertEqual(shown(finds(pattern, text, start=start, engine=engine)), wanted)
        parted = pieces(pattern, text)
        ways = finds(pattern, text)
        self.assertEqual(len(parted), len(ways) + 1)
        self.assertEqual(put_together(parted, [text[way.begin:way.end] for way in ways]), text)
        for engine in engines:
            if engine != TABLE:
                self.assertEqual(pieces(pattern, text, engine=engine), parted)

    def test_written_patterns(self):
        for written in WRITTEN:
            pattern = made(written)
            for text in TEXTS:
                self.assert_found(pattern, text)

    def test_plain_patterns_by_chance(self):
        for pattern in small_patterns(rng(36), 120, PLAIN, "ab", most_rows=25):
            self.assertIn(TABLE, engines_of(pattern))
            for text in TEXTS[:15:2] + TEXTS[15:]:
                self.assert_found(pattern, text)

    def test_patterns_of_all_words_by_chance(self):
        for pattern in small_patterns(rng(361), 120, FREE + ["edge", "back"], "ab\n", most_rows=25):
            for text in TEXTS[:15:2] + TEXTS[15:]:
                self.assert_found(pattern, text)

    def test_by_hand(self):
        for written, text, wanted in (
            ("a", "banana", [(1, 2), (3, 4), (5, 6)]), ("ana", "banana", [(1, 4)]), ("x", "banana", []),
            ("a*", "baac", [(0, 0), (1, 3), (3, 3), (4, 4)]), ("a*", "aa", [(0, 2), (2, 2)]), ("a*", "", [(0, 0)]),
            ("", "ab", [(0, 0), (1, 1), (2, 2)]), ("@>", "ab", [(2, 2)]), ("a|", "ab", [(0, 1), (1, 1), (2, 2)]),
            ("a+", "aabaa", [(0, 2), (3, 5)]), ("(<a)", "aab", [(1, 1), (2, 2)]), ("b*(>a)", "bba", [(0, 2), (2, 2)]),
        ):
            pattern = made(written)
            self.assertEqual([(way.begin, way.end) for way in finds(pattern, text)], wanted, written)
            for engine in engines_of(pattern):
                self.assertEqual(spots(pattern, text, engine=engine), wanted, (written, engine))

    def test_what_stands_ahead_of_the_start_is_seen(self):
        self.assertEqual(spots(made("(<a)b"), "abb", start=1, engine=WALK), [(1, 2)])
        self.assertEqual(spots(made("@<b"), "bb", start=1, engine=WALK), [])
        self.assertEqual(spots(made("@/b"), "ab b", start=1, engine=THREADS), [(3, 4)])

    def test_left_out_engines(self):
        self.assertEqual((WALK, THREADS, TABLE), ("walk", "threads", "table"))
        with self.assertRaises(Unfit) as caught:
            spots(made("@<a"), "a")
        self.assertEqual(caught.exception.word, "edge")
        self.assertEqual(len(finds(made("(x:a)&x;"), "aaaa")), 2)
        self.assertEqual(pieces(made("(x:a)&x;"), "baab"), ["b", "b"])

    def test_long_texts(self):
        text = "ab" * 200
        for engine in (WALK, THREADS, TABLE):
            self.assertEqual(spots(made("(a|b)"), text, engine=engine), [(at, at + 1) for at in range(400)])
            self.assertEqual(spots(made("ba"), text, engine=engine), [(at, at + 2) for at in range(1, 399, 2)])
            self.assertEqual(spots(made("c*"), text, start=398, engine=engine), [(398, 398), (399, 399), (400, 400)])

    def test_threads_and_table_where_the_walker_gives_up(self):
        text = "a" * 60 + "b"
        self.assertEqual(spots(made(SLOW), text), [(0, 61)])
        self.assertEqual(spots(made(SLOW), "a" * 60), [])
        self.assertEqual(finds(made(SLOW), "a" * 60, engine=THREADS), [])
        self.assertEqual([str(way) for way in finds(made(SLOW), text, engine=THREADS)], ["0-61"])


class Refused(unittest.TestCase):
    def assert_no_place(self, call, at):
        with self.assertRaises(NoPlace) as caught:
            call()
        self.assertIs(caught.exception.at, at)

    def assert_unfit(self, call, word):
        with self.assertRaises(Unfit) as caught:
            call()
        self.assertIs(caught.exception.word, word)

    def assert_too_much(self, call):
        with self.assertRaises(TooMuch) as caught:
            call()
        self.assertEqual(caught.exception.most, 20000)

    def test_starts_that_are_no_places(self):
        for text in ("", "abc"):
            for at in no_places(text):
                for pattern in (made("a"), made("(x:a)&x;"), made(SLOW)):
                    for engine in (WALK, THREADS, TABLE, "none", None):
                        self.assert_no_place(lambda: finds(pattern, text, start=at, engine=engine), at)
                        self.assert_no_place(lambda: spots(pattern, text, start=at, engine=engine), at)

    def test_other_engines(self):
        others = [thing for thing in no_strings()] + ["", "WALK", "walks", "wal", "walk ", "Table", "a", "w"]
        for engine in others:
            # These refuse more than one thing: the engine goes first.
            for pattern in (made("a"), made("@<(x:a)&x;"), made(SLOW)):
                text = "a" * 40
                self.assert_unfit(lambda: finds(pattern, text, engine=engine), engine)
                self.assert_unfit(lambda: spots(pattern, text, engine=engine), engine)
                self.assert_unfit(lambda: pieces(pattern, text, engine=engine), engine)
        for pattern in (made("a"), made("@<a"), made(SLOW)):
            self.assert_unfit(lambda: finds(pattern, "aa", engine=TABLE), "table")
            self.assert_unfit(lambda: pieces(pattern, "aa", engine=TABLE), "table")

    def test_the_engines_own_refusals(self):
        for written, word in UNFIT:
            with self.assertRaises(Unfit) as caught:
                spots(made(written), "ab")
            self.assertEqual(caught.exception.word, word)
        for written in ("(x:a)&x;", "@<(!(:a)|b&1;)"):
            for ask in (finds, spots, pieces):
                with self.assertRaises(Unfit) as caught:
                    ask(made(written), "", engine=THREADS)
                self.assertEqual(caught.exception.word, "back")

    def test_the_walker_gives_up(self):
        pattern = made(SLOW)
        for text in ("a" * 40, "b" * 9 + "a" * 40, "ab" * 5 + "a" * 30):
            self.assert_too_much(lambda: finds(pattern, text))
            self.assert_too_much(lambda: spots(pattern, text, engine=WALK))
            self.assert_too_much(lambda: pieces(pattern, text))
        # Each begin has its own steps: together these are more.
        self.assertEqual(finds(pattern, "aaaaaaaaaac" * 20), [])
        self.assertEqual(finds(pattern, "c" + "a" * 10 + "b" * 5, start=9)[0].begin, 9)
        self.assert_too_much(lambda: finds(pattern, "c" * 5 + "a" * 40, start=3))
        self.assertEqual(finds(pattern, "a" * 40, start=30), [])


class Parted(unittest.TestCase):
    def test_pieces_by_hand(self):
        for written, text, wanted in (
            (",", "a,b,,c", ["a", "b", "", "c"]), (",", "", [""]), (",", "abc", ["abc"]), (",", ",", ["", ""]),
            ("", "ab", ["", "a", "b", ""]), ("a*", "baac", ["", "b", "", "c", ""]), ("a", "aaa", ["", "", "", ""]),
        ):
            for engine in (WALK, THREADS):
                self.assertEqual(pieces(made(written), text, engine=engine), wanted, (written, text))

    def test_put_together(self):
        for told, between, wanted in (
            ([], [], ""), (["a"], [], "a"), (["a"], ["b"], "ab"), (["a", "b"], ["-"], "a-b"), (["", "", ""], ["x", "y"], "xy"),
            (["a", "b"], ["1", "2"], "a1b2"), (["", ""], ["", ""], ""), (["a" * 500, "b"], ["c" * 700], "a" * 500 + "c" * 700 + "b"),
        ):
            self.assertEqual(put_together(told, between), wanted)

    def test_lists_handed_in_stay(self):
        told, between = ["a", "b", "c"], ["1", "2", "3"]
        put_together(told, between)
        put_together(told, between[:2])
        self.assertEqual((told, between), (["a", "b", "c"], ["1", "2", "3"]))


class AskedAgain(unittest.TestCase):
    def test_in_any_order_with_refusals_between(self):
        asked = [(made(written), text) for written in WRITTEN for text in ("abba", "aab\n")]
        before = [(shown(finds(*one)), pieces(*one), spots(*one, engine=WALK)) for one in asked]
        for (pattern, text), told in reversed(list(zip(asked, before))):
            for call in (lambda: finds(pattern, text, start=9), lambda: spots(pattern, text, engine=0),
                         lambda: finds(made(SLOW), "a" * 40)):
                with self.assertRaises((NoPlace, Unfit, TooMuch)):
                    call()
            self.assertEqual((shown(finds(pattern, text)), pieces(pattern, text), spots(pattern, text, engine=WALK)), told)

    def test_told_lists_are_the_askers_own(self):
        pattern = made("a|b")
        for ask in (finds, spots, pieces):
            told = ask(pattern, "abc")
            kept = list(told)
            told.clear()
            self.assertEqual(ask(pattern, "abc"), kept)

    def test_a_pattern_made_anew_finds_the_same(self):
        for written in WRITTEN:
            pattern = made(written)
            self.assertEqual(plain_ways(finds(pattern, "abab b")), plain_ways(finds(Pattern(pattern.tree), "abab b")))


if __name__ == "__main__":
    unittest.main()
