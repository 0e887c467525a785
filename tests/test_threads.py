"""Promises 27 to 29 (and 5 as far as it speaks of threads, 2, 3 and 4 for them)."""

import unittest

from atomglass.errors import NoPlace, Unfit
from atomglass.pattern import Pattern
from atomglass.threads import Threads
from atomglass.walker import Walker
from atomglass.ways import Way
from tests.all_routes import told_ways
from tests.small_patterns import FREE, PLAIN, made, plain_ways, small_patterns, texts_over
from tests.some_trees import A, EMPTY, nested
from tests.things import no_places, rng

WITHOUT_LOOKS = PLAIN + ["flags", "edge"]


def rows_of_way(code, way):
    """How many rows a way enters that has no look and no once, its choices taken one after another."""
    row, rows, choices = 0, 1, list(way.choices)
    while code[row][0] != "done":
        word = code[row][0]
        if word == "fork":
            row = code[row][1 + choices.pop(0)]
        else:
            row = code[row][1] if word == "go" else row + 1
        rows += 1
    return rows


class Telling(unittest.TestCase):
    def assert_as_routes(self, pattern, text):
        """first and ends are as all routes tell, at each place."""
        threads = Threads(pattern, text)
        for at in range(len(text) + 1):
            ways = told_ways(pattern.code(), text, at, pattern.groups)[0]
            first = threads.first(at)
            if ways:
                self.assertIsInstance(first, Way)
                self.assertEqual(first.begin, at)
                self.assertEqual(plain_ways([first]), ways[:1], (pattern.tree, text, at))
            else:
                self.assertIsNone(first, (pattern.tree, text, at))
            self.assertEqual(threads.ends(at), sorted({end for end, spans, choices in ways}), (pattern.tree, text, at))

    def assert_told(self, pattern, text, at, way, ends):
        """The first way as (end, spans, choices), or None, and all ends."""
        threads = Threads(made(pattern), text)
        first = threads.first(at)
        self.assertEqual(plain_ways([first]) if first else None, [way] if way else None, pattern)
        self.assertEqual(threads.ends(at), ends, pattern)
        self.assert_as_routes(made(pattern), text)


class Refused(unittest.TestCase):
    def test_backs(self):
        for written in ("(x:a)&x;", "(:a)&1;", "&x;(x:a)", "(:a)(>b&1;)", "(:a)(!&1;)|b",
                        "a|b|(:c)(#a:&1;)", "(x:a(&x;)?)"):
            with self.assertRaises(Unfit) as caught:
                Threads(made(written), "aab")
            self.assertEqual(caught.exception.word, "back")

    def test_others_are_taken(self):
        for written in ("", "(x:a)", "(!a)", "(>a)", "(<~a)", "@/", "(#a:a)", "a*~b+!"):
            Threads(made(written), "aab")

    def test_no_place_of_whatever_it_is(self):
        for text in ("", "aab"):
            threads = Threads(made("(>a)a*|a"), text)
            threads.ends(0)
            entered = threads.entered
            for thing in no_places(text):
                for question in (threads.first, threads.ends):
                    with self.assertRaises(NoPlace) as caught:
                        question(thing)
                    self.assertIs(caught.exception.at, thing)
                    self.assertEqual(threads.entered, entered)


class Told(Telling):
    def test_by_hand(self):
        self.assert_told("a|ab", "ab", 0, (1, (), (0,)), [1, 2])
        self.assert_told("ab|a", "ab", 0, (2, (), (0,)), [1, 2])
        self.assert_told("a*", "aab", 0, (2, (), (0, 0, 1)), [0, 1, 2])
        self.assert_told("a*~", "aab", 0, (0, (), (0,)), [0, 1, 2])
        self.assert_told("a", "b", 0, None, [])
        self.assert_told("", "", 0, (0, (), ()), [0])
        self.assert_told("(x:a|b)*", "abc", 0, (2, ((1, 2),), (0, 0, 0, 1, 1)), [0, 1, 2])
        self.assert_told("((x:a)|(y:b))*c", "abc", 0, (3, ((0, 1), (1, 2)), (0, 0, 0, 1, 1)), [3])
        self.assert_told("(a|a)*b", "aab", 0, (3, (), (0, 0, 0, 0, 1)), [3])

    def test_ends_rise_and_each_is_told_once(self):
        self.assert_told("(a|a|aa)*~", "aaa", 0, (0, (), (0,)), [0, 1, 2, 3])
        self.assert_told("aaa|a|aa|a|", "aaa", 0, (3, (), (0,)), [0, 1, 2, 3])
        self.assert_told("aaa|a|aa|a|", "aaa", 2, (3, (), (1, 0)), [2, 3])

    def test_a_later_thread_that_meets_an_earlier_one_is_dropped(self):
        # Both options come to the same row at the same place; the spans and choices are the first one's.
        self.assert_told("((x:a)b|a(y:b))c", "abc", 0, (3, ((0, 1), None), (0,)), [3])
        self.assert_told("((x:a)|(y:a))*b", "aab", 0, (3, ((1, 2), None), (0, 0, 0, 0, 1)), [3])

    def test_empty_parts(self):
        self.assert_told("()?", "", 0, (0, (), (0,)), [0])
        self.assert_told("(){0,3}~a", "a", 0, (1, (), (0,)), [1])
        self.assert_told("(a?){3}", "aa", 0, (2, (), (0, 0, 1)), [0, 1, 2])
        self.assert_told("(x:a*){2}", "aa", 0, (2, ((2, 2),), (0, 0, 1, 1)), [0, 1, 2])

    def test_edges(self):
        self.assert_told("@<(a|@>)@-a", "aa", 0, (2, (), (0,)), [2])
        self.assert_told("(@/a|-)*@>", "-a-", 0, (3, (), (0, 1, 0, 0, 0, 1, 1)), [3])

    def test_looks(self):
        self.assert_told("(>a|b)(b|a)", "a", 0, (1, (), (1,)), [1])
        self.assert_told("(a(>b)|a)*b?", "aab", 0, (3, (), (0, 1, 0, 0, 1, 0)), [0, 1, 2, 3])
        self.assert_told("(a|b(<ab))*", "abb", 0, (2, (), (0, 0, 0, 1, 1)), [0, 1, 2])
        self.assert_told("(.(<~bb))*", "abbb", 0, (2, (), (0, 0, 1)), [0, 1, 2])
        self.assert_told("a*(>~a*b)", "aab", 0, None, [])
        self.assert_told("a(<a(>b(<ab)))", "ab", 0, (1, (), ()), [1])

    def test_onces(self):
        self.assert_told("(!a|ab)(c|bcd)", "abcd", 0, (4, (), (0, 1)), [4])
        self.assert_told("(!a|ab)c", "abc", 0, None, [])
        self.assert_told("a*!", "aab", 0, (2, (), (0, 0, 1)), [2])
        self.assert_told("(!(x:a)|(y:ab))(:b)?", "ab", 0, (2, ((0, 1), None, (1, 2)), (0, 0)), [1, 2])
        self.assert_told("(!(!a|b)|c)*", "cb", 0, (2, (), (0, 1, 0, 0, 1, 1)), [0, 1, 2])

    def test_a_thread_that_goes_on_farther_ahead_keeps_its_standing(self):
        # The once leads three places on at once; a later option comes there sign by sign and stays behind it.
        self.assert_told("((x:(!aaa))|(y:a))*b", "aaab", 0, (4, ((0, 3), None), (0, 0, 1)), [4])
        self.assert_told("((x:a)|(y:(!aaa)))*b", "aaab", 0, (4, ((2, 3), None), (0, 0, 0, 0, 0, 0, 1)), [4])
        self.assert_told("(!aa|a)*a", "aaa", 0, (3, (), (0, 0, 1)), [1, 3])
        self.assert_told("((!aaa)|a)*~aa", "aaaa", 0, (2, (), (0,)), [2, 3, 4])

    def test_as_all_routes_tell(self):
        chance = rng(27)
        for pattern in small_patterns(chance, 500, FREE + ["edge"], "abA\n"):
            for _ in range(2):
                self.assert_as_routes(pattern, "".join(chance.choices("aabbA\n", k=chance.randrange(7))))

    def test_as_the_walker_tells(self):
        chance = rng(28)
        for pattern in small_patterns(chance, 60, FREE + ["edge"], "ab"):
            for text in texts_over("ab", 4):
                walker, threads = Walker(pattern, text), Threads(pattern, text)
                for at in range(len(text) + 1):
                    way, told = walker.first(at), threads.first(at)
                    self.assertEqual(way, told)
                    self.assertEqual(way and way.choices, told and told.choices)
                    self.assertEqual(threads.ends(at), sorted({way.end for way in walker.ways(at)}))

    def test_deep_ones(self):
        for wrap in (
            lambda part: ("once", part), lambda part: ("look", "ahead", part), lambda part: ("look", "behind", part),
            lambda part: ("look", "nobehind", part), lambda part: ("row", (part, EMPTY)),
        ):
            self.assert_as_routes(Pattern(nested(39, A, wrap)), "a" if wrap(A)[0] == "look" else "aab")


class Entered(Telling):
    def test_ahead_of_the_first_asking(self):
        self.assertEqual(Threads(made("a*"), "aa").entered, 0)

    def test_by_hand(self):
        threads = Threads(made("a|b"), "a")
        # fork, read a, go, done, read b.
        threads.ends(0)
        self.assertEqual(threads.entered, 5)
        threads.first(0)
        self.assertTrue(4 <= threads.entered <= 5)
        # fork, read a, read b: neither reads.
        threads.first(1), self.assertEqual(threads.entered, 3)
        threads.ends(1), self.assertEqual(threads.entered, 3)
        threads = Threads(made("(a|a)*b"), "aa")
        # At 0 fork, fork, read, read, read b; at 1 and at 2 these, the two goes too.
        threads.ends(0), self.assertEqual(threads.entered, 5 + 7 + 7)

    def test_behind_ends_it_is_the_number_of_pairs(self):
        chance = rng(29)
        for pattern in small_patterns(chance, 200, WITHOUT_LOOKS, "ab\n"):
            code = pattern.code()
            text = "".join(chance.choices("ab\n", k=chance.randrange(7)))
            threads = Threads(pattern, text)
            for at in range(len(text) + 1):
                pairs = set(told_ways(code, text, at, pattern.groups)[3])
                threads.ends(at)
                self.assertEqual(threads.entered, len(pairs))
                self.assertLessEqual(threads.entered, len(code) * (len(text) - at + 1))
                way = threads.first(at)
                self.assertLessEqual(threads.entered, len(pairs))
                if way is not None:
                    self.assertGreaterEqual(threads.entered, rows_of_way(code, way))

    def test_the_same_each_time_that_the_same_is_asked(self):
        chance = rng(30)
        for pattern in small_patterns(chance, 100, FREE + ["edge"], "ab"):
            text = "".join(chance.choices("ab", k=6))
            threads, other = Threads(pattern, text), Threads(pattern, text)
            first = {}
            askings = [(name, at) for name in ("first", "ends") for at in range(7)] * 3
            chance.shuffle(askings)
            for name, at in askings:
                getattr(threads, name)(at)
                self.assertEqual(first.setdefault((name, at), threads.entered), threads.entered)
            for name, at in askings:
                getattr(other, name)(at)
                self.assertEqual(first[(name, at)], other.entered)

    def test_rows_within_looks_and_onces_count_too(self):
        for written in ("(>a)a", "a(<a)", "(!a)"):
            threads = Threads(made(written), "a")
            threads.first(0)
            self.assertGreaterEqual(threads.entered, len(made(written).code()))
            threads.ends(0)
            self.assertGreaterEqual(threads.entered, len(made(written).code()))

    def test_a_line_in_the_length_however_often_routes_meet(self):
        for written in ("(a|a)*b", "(a|aa)*b", "(a*b?){2}c", "a*a*a*a*b", "(a?){20}a{20}b", "((a|a)*|(a|aa)*)(x:a)*b"):
            pattern = made(written)
            for length in (50, 100, 200, 400):
                threads = Threads(pattern, "a" * length)
                bound = len(pattern.code()) * (length + 1)
                self.assertIsNone(threads.first(0))
                self.assertLessEqual(threads.entered, bound)
                self.assertEqual(threads.ends(0), [])
                self.assertLessEqual(threads.entered, bound)
                self.assertGreater(threads.entered, length)

    def test_four_hundred_signs_are_answered_at_once(self):
        text = "a" * 399 + "b"
        for written in ("(a|a)*b", "((a|aa){1,}|b)+", "a*a*a*a*b", "(x:(a|a)*)b"):
            way = Threads(made(written), text).first(0)
            self.assertEqual(way.end, 400)
            self.assertEqual(Threads(made(written), text).ends(0)[-1], 400)

    def test_with_looks_and_onces_too(self):
        text = "a" * 399 + "b"
        for written in ("((>(a|a)*b)a)*b", "(a(<(a|a)*))*b", "(a(<~(a|a)*b))*b", "(!(a|a)*)b", "((!a|aa)(>~(a|a)*c))*b",
                        "(a(<@<(a|a)*))*(!(>(a|a)*b)(a|a)*)b", "(!a*c|a)*b"):
            pattern = made(written)
            threads = Threads(pattern, text)
            self.assertEqual(threads.first(0).end, 400, written)
            # Each row at most once at each place, be it within a look or a once.
            self.assertLessEqual(threads.entered, len(pattern.code()) * 401)
            self.assertEqual(threads.ends(0)[-1], 400)
            self.assertLessEqual(threads.entered, len(pattern.code()) * 401)

    def test_as_long_codes_as_there_are(self):
        pattern = made("(a?){20}(a?){20}(a?){20}(a?){20}(a?){20}(a?){20}(a?){20}b")
        self.assertEqual(len(pattern.code()), 282)
        threads = Threads(pattern, "a" * 400)
        self.assertEqual(threads.ends(0), [])
        self.assertLessEqual(threads.entered, 282 * 401)
        threads = Threads(pattern, "a" * 140 + "b")
        self.assertEqual(threads.first(0).choices, (0,) * 140)


class NothingIsChanged(Telling):
    def test_told_lists_are_new_ones(self):
        threads = Threads(made("a*"), "aa")
        told = threads.ends(0)
        told.append(9)
        self.assertEqual(threads.ends(0), [0, 1, 2])
        self.assertIsNot(threads.ends(0), threads.ends(0))

    def test_asked_again_in_any_order_with_refusals_in_between(self):
        chance = rng(31)
        for pattern in small_patterns(chance, 60, FREE + ["edge"], "ab"):
            text = "".join(chance.choices("ab", k=6))
            threads, other = Threads(pattern, text), Threads(pattern, text[::-1])
            askings = [(asked, at) for asked in (threads, other) for at in range(7)] * 2
            chance.shuffle(askings)
            known = {}
            for asked, at in askings:
                with self.assertRaises(NoPlace):
                    asked.first(None)
                way = asked.first(at)
                told = (plain_ways([way]) if way else None, asked.ends(at))
                self.assertEqual(known.setdefault((asked is other, at), told), told)

    def test_the_pattern_stays(self):
        pattern = made("(x:a|b)*!(>c)")
        before = (pattern.code(), pattern.names(), pattern.tree)
        Threads(pattern, "abc").first(0)
        self.assertEqual((pattern.code(), pattern.names(), pattern.tree), before)


if __name__ == "__main__":
    unittest.main()
