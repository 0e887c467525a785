"""Promises 21 to 25 (and 2, 3 and 4 for them): the walker."""

import unittest
from unittest import mock

from atomglass import walker as walker_file
from atomglass.errors import GlassError, NoPlace, TooMuch
from atomglass.pattern import Pattern
from atomglass.walker import MOST_STEPS, Walker
from atomglass.ways import Way
from tests.all_routes import told_ways
from tests.small_patterns import FREE, PLAIN, made, plain_ways, small_patterns, texts_over
from tests.some_trees import A, B, EMPTY, nested
from tests.things import no_places, rng
from tests.tree_ways import Meaning

EVERY = FREE + ["edge", "back"]


class Asking(unittest.TestCase):
    def ends(self, pattern, text, at):
        """Where all ways end, in their order."""
        return [way.end for way in Walker(made(pattern), text).ways(at)]

    def assert_taken(self, pattern, text, *places):
        """At just these places of the text the pattern has a way; first and ways tell the same."""
        walker = Walker(made(pattern), text)
        told = [at for at in range(len(text) + 1) if walker.first(at) is not None]
        self.assertEqual(told, list(places), (pattern, text))
        for at in range(len(text) + 1):
            ways = walker.ways(at)
            self.assertEqual(bool(ways), at in places)
            self.assertEqual(walker.first(at), ways[0] if ways else None)


class Rows(Asking):
    """Each row of a code, where it goes on and where it fails."""

    def test_read(self):
        self.assert_taken("a", "abAa", 0, 3)
        self.assert_taken("a", "")
        self.assert_taken(".", "a\n~ ", 0, 2, 3)
        self.assert_taken("(#l:.)", "a\n~ ", 0, 1, 2, 3)
        self.assert_taken("\\n", "a\n\n", 1, 2)
        self.assert_taken("(#a:b)", "abBA", 1, 2)
        self.assert_taken("[^a-c]", "abcd\n", 3, 4)
        self.assert_taken("(#a:[^a-c])", "aBcD\n", 3, 4)
        self.assert_taken("[^\\n-~]", "ab\n")
        self.assertEqual(self.ends("ab", "ab", 0), [2])
        self.assertEqual(self.ends("ab", "a", 0), [])

    def test_done_at_once(self):
        self.assert_taken("", "ab", 0, 1, 2)
        self.assertEqual(self.ends("", "", 0), [0])

    def test_fork_and_go(self):
        self.assertEqual(self.ends("a|ab", "ab", 0), [1, 2])
        self.assertEqual(self.ends("ab|a", "ab", 0), [2, 1])
        self.assertEqual(self.ends("a|b|", "b", 0), [1, 0])
        self.assertEqual(self.ends("a*", "aab", 0), [2, 1, 0])
        self.assertEqual(self.ends("a*~", "aab", 0), [0, 1, 2])
        self.assertEqual(self.ends("a{1,2}", "aaa", 0), [2, 1])
        self.assertEqual(self.ends("a{1,2}~", "aaa", 0), [1, 2])
        self.assertEqual(self.ends("a{2,}", "aaaa", 1), [4, 3])
        self.assertEqual(self.ends("a{2,}", "a", 0), [])

    def test_start_and_end(self):
        self.assert_taken("@<", "ab\n", 0)
        self.assert_taken("@>", "ab\n", 3)
        self.assert_taken("@<@>", "", 0)
        self.assert_taken("@<@>", "a")
        self.assert_taken("a@>", "aba", 2)

    def test_rowstart_and_rowend(self):
        self.assert_taken("@^", "a\n\nb", 0, 2, 3)
        self.assert_taken("@$", "a\n\nb", 1, 2, 4)
        self.assert_taken("@^", "\n", 0, 1)
        self.assert_taken("@$", "\n", 0, 1)
        self.assert_taken("@^@$", "", 0)
        self.assert_taken("@^", "abc", 0)
        self.assert_taken("@$", "abc", 3)
        # The flag lines is nothing to edges.
        self.assert_taken("(#l:@^)", "a\nb", 0, 2)
        self.assert_taken("(#-l:@$)", "a\nb", 1, 3)

    def test_word_and_inner(self):
        self.assert_taken("@/", "ab c", 0, 2, 3, 4)
        self.assert_taken("@-", "ab c", 1)
        self.assert_taken("@/", "")
        self.assert_taken("@-", "", 0)
        self.assert_taken("@/", "  ")
        self.assert_taken("@-", "  ", 0, 1, 2)
        self.assert_taken("@/", "_\n9-Z", 0, 1, 2, 3, 4, 5)
        self.assert_taken("@-", "a_9Z", 1, 2, 3)
        self.assert_taken("@/", "-a-\n-", 1, 2)
        self.assert_taken("@-", "-a-\n-", 0, 3, 4, 5)

    def test_all_edges_of_all_short_texts(self):
        names = {"@<": "start", "@>": "end", "@^": "rowstart", "@$": "rowend", "@/": "word", "@-": "inner"}
        for text in texts_over("a_-\n", 4):
            for written, kind in names.items():
                meaning = Meaning(("edge", kind), text)
                places = [at for at in range(len(text) + 1) if meaning.ways(at)]
                self.assert_taken(written, text, *places)


class Backs(Asking):
    def test_the_same_again(self):
        self.assertEqual(self.ends("(x:a|ab)&x;", "aab", 0), [2])
        self.assertEqual(self.ends("(x:a|ab)&x;", "abab", 0), [4])
        self.assertEqual(self.ends("(x:..)&x;", "abba", 0), [])
        self.assertEqual(self.ends("(x:.*)&1;", "abab", 0), [4, 0])

    def test_without_a_span(self):
        self.assertEqual(self.ends("(a|(x:b))&x;", "ab", 0), [])
        self.assertEqual(self.ends("(a|(x:b))&x;", "bb", 0), [2])
        self.assertEqual(self.ends("&x;(x:a)", "aa", 0), [])
        self.assertEqual(self.ends("(x:a&x;)", "aa", 0), [])
        self.assertEqual(self.ends("&1;?(:a)", "a", 0), [1])

    def test_with_an_empty_span(self):
        self.assertEqual(self.ends("(x:)&x;", "a", 0), [0])
        self.assertEqual(self.ends("(x:)&x;", "a", 1), [1])
        self.assertEqual(self.ends("a(x:b*)&x;c", "ac", 0), [2])

    def test_at_the_end_of_the_text(self):
        self.assertEqual(self.ends("(x:ab)&x;", "aba", 0), [])
        self.assertEqual(self.ends("(x:ab)&x;", "ab", 0), [])
        self.assertEqual(self.ends("(x:ab)&x;", "abab", 0), [4])

    def test_alike(self):
        self.assertEqual(self.ends("(x:.b)&x;", "abAb", 0), [])
        self.assertEqual(self.ends("(x:.b)(#a:&x;)", "abAB", 0), [4])
        self.assertEqual(self.ends("(x:.{3})(#a:&x;)", "a@[a@[", 0), [6])
        self.assertEqual(self.ends("(x:.)(#a:&x;)", "@`", 0), [])
        self.assertEqual(self.ends("(x:.)(#a:&x;)", "[{", 0), [])
        self.assertEqual(self.ends("(#a:(x:a))&x;", "aA", 0), [])
        self.assertEqual(self.ends("(#a:(x:a)(#-a:&x;))", "aA", 0), [])

    def test_the_last_span_counts(self):
        self.assertEqual(self.ends("(x:.)*&x;", "abb", 0), [3])
        self.assertEqual(self.ends("((x:a|b)&x;)*", "aabb", 0), [4, 2, 0])
        self.assertEqual(self.ends("(a&1;|(:b))*", "bab", 0), [3, 1, 0])

    def test_within_looks(self):
        self.assertEqual(self.ends("(x:.).(<&x;)", "aa", 0), [2])
        self.assertEqual(self.ends("(x:.).(<&x;)", "ab", 0), [])
        self.assertEqual(self.ends("(x:.)(>~&x;)", "ab", 0), [1])
        # A back within a look behind may begin ahead of the span, and reach into it.
        self.assertEqual(self.ends("a(x:ba)(<a&x;)", "aba", 0), [3])


class Onces(Asking):
    def test_the_first_route_is_kept(self):
        self.assertEqual(self.ends("(!a|ab)", "ab", 0), [1])
        self.assertEqual(self.ends("(!ab|a)", "ab", 0), [2])
        self.assertEqual(self.ends("(!a|ab)c", "abc", 0), [])
        self.assertEqual(self.ends("(!ab|a)b", "ab", 0), [])
        self.assertEqual(self.ends("a*!", "aab", 0), [2])
        self.assertEqual(self.ends("a*!a", "aa", 0), [])
        self.assertEqual(self.ends("a{1,2}!a", "aaa", 0), [3])
        self.assertEqual(self.ends("a+!", "b", 0), [])
        self.assertEqual(self.ends("(!)", "b", 1), [1])

    def test_forks_ahead_of_it_are_tried_again(self):
        self.assertEqual(self.ends("a*(!a|ab)", "aab", 0), [2, 1])
        self.assertEqual(self.ends("(a|)(!a*)b", "aab", 0), [3, 3])

    def test_what_it_has_in_its_spans_is_kept(self):
        way = Walker(made("(!(x:a)|(y:ab))(:b)?"), "ab").first(0)
        self.assertEqual((way.end, way.spans, way.choices), (2, ((0, 1), None, (1, 2)), (0, 0)))
        way = Walker(made("(x:a)(!(y:b)*)"), "abb").first(0)
        self.assertEqual((way.end, way.spans), (3, ((0, 1), (2, 3))))

    def test_spans_from_ahead_are_known_within(self):
        self.assertEqual(self.ends("(x:.)(!&x;|.)", "aab", 0), [2])
        self.assertEqual(self.ends("(x:a(!b(y:c)))", "abc", 0), [3])
        way = Walker(made("(x:a(!b(y:c)))&y;&x;"), "abccabc").first(0)
        self.assertEqual((way.end, way.spans), (7, ((0, 3), (2, 3))))

    def test_onces_within_onces(self):
        self.assertEqual(self.ends("(!(!a|ab)b?|c)", "abb", 0), [2])
        self.assertEqual(self.ends("(!(!a|ab)c|ab)", "abc", 0), [2])

    def test_choices_within_it_are_told(self):
        self.assertEqual(Walker(made("(!a|b)(!a|b)"), "ba").first(0).choices, (1, 0))
        self.assertEqual(Walker(made("(!(!a|b)|c)*"), "cb").first(0).choices, (0, 1, 0, 0, 1, 1))
        # Of a route within that failed nothing is left.
        self.assertEqual(Walker(made("(!ab|ac)"), "ac").first(0).choices, (1,))


class Looks(Asking):
    def test_ahead(self):
        self.assert_taken("(>ab)", "abaab", 0, 3)
        self.assert_taken("(>~ab)", "abaab", 1, 2, 4, 5)
        self.assertEqual(self.ends("(>ab)a", "ab", 0), [1])
        self.assertEqual(self.ends("(>ab)b", "ab", 0), [])
        self.assertEqual(self.ends("a(>@>)", "aa", 0), [])
        self.assert_taken("(>)", "a", 0, 1)
        self.assert_taken("(>~)", "a")

    def test_behind(self):
        self.assert_taken("(<ab)", "abaab", 2, 5)
        self.assert_taken("(<~ab)", "abaab", 0, 1, 3, 4)
        self.assert_taken("(<a*b)", "aab", 3)
        self.assert_taken("(<@<a*)", "aab", 0, 1, 2)
        self.assert_taken("(<a|aab)", "aab", 1, 2, 3)
        self.assert_taken("(<)", "a", 0, 1)
        self.assert_taken("(<~)", "a")
        self.assert_taken("(<a)", "")
        self.assert_taken("(<~a)", "", 0)

    def test_behind_from_every_begin(self):
        for at in range(6):
            self.assert_taken("(<@<" + "." * at + ")", "aaaaa", at)

    def test_behind_tries_later_routes_too(self):
        # The first route within comes to its kept too far ahead; another one comes there just here.
        self.assertEqual(self.ends("aa(<(aaa|a)a)", "aaaa", 0), [2])
        self.assertEqual(self.ends("(<a*)a", "aaa", 1), [2])
        self.assertEqual(self.ends("a(<(!aa|a))", "aa", 0), [])

    def test_within_a_look_more_of_the_text_is_seen(self):
        self.assertEqual(self.ends("a(<a(>b))", "ab", 0), [1])
        self.assertEqual(self.ends("a(<~a(>b))", "ab", 0), [])
        self.assertEqual(self.ends("(>a(<a))", "a", 0), [0])

    def test_spans_and_place_stay(self):
        way = Walker(made("(x:a)(>bc)(y:b)"), "abc").first(0)
        self.assertEqual((way.end, way.spans), (2, ((0, 1), (1, 2))))
        way = Walker(made("(x:a(<a)(>b))b"), "ab").first(0)
        self.assertEqual((way.end, way.spans), (2, ((0, 1),)))

    def test_a_look_gives_one_route(self):
        self.assertEqual(len(Walker(made("(>a|a|.)a"), "a").ways(0)), 1)
        self.assertEqual(len(Walker(made("a(<a|a|.)"), "a").ways(0)), 1)

    def test_choices_within_it_are_not_told(self):
        self.assertEqual(Walker(made("(>b|a)(a|b)"), "a").first(0).choices, (0,))
        self.assertEqual(Walker(made("(a|b)(<c|b)(a|b)"), "bb").first(0).choices, (1, 1))
        self.assertEqual(Walker(made("(>~c|b)(b|a)"), "a").first(0).choices, (1,))
        self.assertEqual(Walker(made("(>(!b|a))(!b|a)"), "a").first(0).choices, (1,))


class Spans(Asking):
    def spans(self, pattern, text, at=0):
        return Walker(made(pattern), text).first(at).spans

    def test_groups_that_are_gone_through_several_times(self):
        self.assertEqual(self.spans("(x:a|b)*", "aba"), ((2, 3),))
        self.assertEqual(self.spans("((x:a)|(y:b))*", "abb"), ((0, 1), (2, 3)))
        self.assertEqual(self.spans("(x:a(y:b)?)*", "aba"), ((2, 3), (1, 2)))
        self.assertEqual(self.spans("(x:a){3}", "aaa"), ((2, 3),))
        self.assertEqual(self.spans("((x:a)b)*", "aba"), ((0, 1),))

    def test_groups_that_are_left_out(self):
        self.assertEqual(self.spans("(x:a)?b", "b"), (None,))
        self.assertEqual(self.spans("(x:a)*", "b"), (None,))
        self.assertEqual(self.spans("(:a)|(:b)|(:c)", "b"), (None, (0, 1), None))

    def test_what_a_failed_route_had_is_gone(self):
        self.assertEqual(self.spans("(x:a)b|a(y:c)", "ac"), (None, (1, 2)))
        self.assertEqual(self.spans("(x:ab|a)(y:b)", "ab"), ((0, 1), (1, 2)))
        self.assertEqual(self.spans("(x:a)*ab", "aab"), ((0, 1),))

    def test_empty_spans_and_begins(self):
        self.assertEqual(self.spans("(x:)", "ab", 1), ((1, 1),))
        self.assertEqual(self.spans("a(x:b(y:))", "zab", 1), ((2, 3), (3, 3)))
        self.assertEqual(self.spans("(x:a*)(y:a*)", "aa"), ((0, 2), (2, 2)))

    def test_groups_within_groups(self):
        self.assertEqual(self.spans("(:a(:b(:c)))d", "abcd"), ((0, 3), (1, 3), (2, 3)))


class OrderOfWays(Asking):
    def told(self, pattern, text, at=0):
        return [(way.end, way.choices) for way in Walker(made(pattern), text).ways(at)]

    def test_two_routes_are_two_ways(self):
        self.assertEqual(self.told("a|a", "a"), [(1, (0,)), (1, (1,))])
        self.assertEqual(self.told("()?", ""), [(0, (0,)), (0, (1,))])
        self.assertEqual(self.told("(a|a)(b|b)", "ab"), [(2, (0, 0)), (2, (0, 1)), (2, (1, 0)), (2, (1, 1))])

    def test_in_the_order_of_their_choices(self):
        self.assertEqual(self.told("(a|ab)(b|)", "ab"), [(2, (0, 0)), (1, (0, 1)), (2, (1, 1))])
        self.assertEqual(self.told("a?~b?", "ab"), [(0, (0, 1)), (2, (1, 0)), (1, (1, 1))])
        self.assertEqual(self.told("a*", "aa"), [(2, (0, 0, 1)), (1, (0, 1)), (0, (1,))])
        for text in texts_over("ab", 5):
            choices = [choices for end, choices in self.told("(a|ab|b(a|))*b?", text)]
            self.assertEqual(choices, sorted(choices))

    def test_the_ways_are_ways(self):
        way, = Walker(made("(x:b)"), "ab").ways(1)
        self.assertIsInstance(way, Way)
        self.assertEqual((way.begin, way.end, way.spans, way.choices), (1, 2, ((1, 2),), ()))
        self.assertEqual(str(way), "1-2")
        self.assertEqual(Walker(made("a"), "b").ways(0), [])

    def test_first_is_the_first_of_them_or_none(self):
        walker = Walker(made("a*~b|(x:a)"), "aab")
        for at in range(4):
            ways = walker.ways(at)
            first = walker.first(at)
            if ways:
                self.assertEqual(plain_ways([first]), plain_ways(ways[:1]))
                self.assertEqual(first.begin, at)
            else:
                self.assertIsNone(first)


class Steps(Asking):
    def counted(self, pattern, text, at=0):
        """The steps of first, ways and toil."""
        walker = Walker(made(pattern), text)
        walker.first(at)
        first = walker.steps
        walker.ways(at)
        ways = walker.steps
        toil = walker.toil(at)
        self.assertEqual((toil, walker.steps), (ways, ways))
        return first, toil

    def test_the_case_of_the_document(self):
        walker = Walker(made("a(!b|bc)c"), "abcc")
        way = walker.first(0)
        self.assertEqual((way.begin, way.end, way.choices, walker.steps), (0, 3, (0,), 8))
        self.assertEqual(walker.toil(0), 8)
        self.assertIsNone(walker.first(1))
        self.assertEqual(walker.steps, 1)

    def test_by_hand(self):
        self.assertEqual(self.counted("", ""), (1, 1))
        self.assertEqual(self.counted("a", "a"), (2, 2))
        self.assertEqual(self.counted("a", "b"), (1, 1))
        self.assertEqual(self.counted("ab", "ab"), (3, 3))
        self.assertEqual(self.counted("(:a)", "a"), (4, 4))
        self.assertEqual(self.counted("@<a@>", "a"), (4, 4))
        # fork, read a, go, done; behind it read b, which fails.
        self.assertEqual(self.counted("a|b", "a"), (4, 5))
        # fork, read a (fails), read b, done.
        self.assertEqual(self.counted("a|b", "b"), (4, 4))
        # Three times fork, read a, twice go, at last done; then done twice more.
        self.assertEqual(self.counted("a*", "aa"), (3 + 3 + 2 + 1, 3 + 3 + 2 + 3))
        self.assertEqual(self.counted("a*~", "aa"), (2, 3 + 3 + 2 + 3))
        # fork 1 1, done; done.
        self.assertEqual(self.counted("()?", ""), (2, 3))
        self.assertEqual(self.counted("(x:a)&x;", "aa"), (5, 5))
        self.assertEqual(self.counted("(x:a)&x;", "ab"), (4, 4))

    def test_onces_by_hand(self):
        # once, fork, read a, go, fork, read a (fails), kept, done.
        self.assertEqual(self.counted("a*!", "a"), (8, 8))
        # once, read a (fails).
        self.assertEqual(self.counted("(!a)", "b"), (2, 2))
        # once, fork, read a, go, kept, read b (fails); what is left within is never tried.
        self.assertEqual(self.counted("(!a|.)b", "ac"), (6, 6))

    def test_looks_by_hand(self):
        # look, read a, kept, read a, done.
        self.assertEqual(self.counted("(>a)a", "a"), (5, 5))
        # look, read a (fails).
        self.assertEqual(self.counted("(>a)b", "b"), (2, 2))
        # look, read a (fails), read b, done.
        self.assertEqual(self.counted("(>~a)b", "b"), (4, 4))
        # look, read a, kept.
        self.assertEqual(self.counted("(>~a)a", "a"), (3, 3))
        # What is left within a look is never tried: look, fork, read a, go, kept, read a, done.
        self.assertEqual(self.counted("(>a|.)a", "a"), (7, 7))

    def test_looks_behind_by_hand(self):
        # At 0: look, read a (fails, there is no sign), that is all.
        self.assertEqual(self.counted("(<a)", "", 0), (2, 2))
        # At 1 of "ab": look, from 1 read a (fails), from 0 read a, kept, then done.
        self.assertEqual(self.counted("(<a)", "ab", 1), (5, 5))
        # At 2 of "abc": look, from 2 read a, from 1 read a, from 0 read a, kept, which is not at 2.
        self.assertEqual(self.counted("(<a)", "abc", 2), (5, 5))
        # At 1 of "aa": look, from 1 read a, kept at 2, no; from 0 read a, kept at 1; done.
        self.assertEqual(self.counted("(<a)", "aa", 1), (6, 6))
        # nobehind at 2 of "abc": look, three times read a, one kept, then done.
        self.assertEqual(self.counted("(<~a)", "abc", 2), (6, 6))
        # At 1: look; from 1 fork, read a, go, kept at 2; read . , kept at 2; from 0 fork, read a, go, kept; done.
        self.assertEqual(self.counted("(<a|.)", "aa", 1), (1 + 4 + 2 + 4 + 1, 12))

    def test_by_another_count(self):
        chance = rng(23)
        for pattern in small_patterns(chance, 150, EVERY, "abA\n"):
            text = "".join(chance.choices("aabbA\n", k=chance.randrange(6)))
            walker = Walker(pattern, text)
            for at in range(len(text) + 1):
                ways, first, steps, entered = told_ways(pattern.code(), text, at, pattern.groups)
                walker.first(at)
                self.assertEqual(walker.steps, first)
                walker.ways(at)
                self.assertEqual(walker.steps, steps)
                self.assertEqual(walker.toil(at), steps)

    def test_many_routes(self):
        self.assertEqual(self.counted("(a|a)*b", "a" * 8)[1], self.counted("(a|a)*b", "a" * 8)[0])
        for length in range(8):
            text = "a" * length
            # Each of 2 ** k routes behind k signs enters fork, fork, read b, and two reads; one go behind each first read.
            forks = sum(2 ** k for k in range(length + 1))
            goes = sum(2 ** k for k in range(length))
            self.assertEqual(self.counted("(a|a)*b", text)[1], forks * 5 + goes * 3)


class Bounds(Asking):
    def refused(self, question, at, **more):
        with self.assertRaises(GlassError) as caught:
            question(at, **more)
        return caught.exception

    def test_most_at_the_steps_that_are_needed_and_one_fewer(self):
        chance = rng(24)
        for pattern in small_patterns(chance, 120, EVERY, "abA\n"):
            text = "".join(chance.choices("aabbA\n", k=chance.randrange(6)))
            walker = Walker(pattern, text)
            at = chance.randrange(len(text) + 1)
            for question in (walker.first, walker.ways, walker.toil):
                told = question(at)
                needed = walker.steps
                self.assertEqual(question(at, most=needed), told)
                self.assertEqual(walker.steps, needed)
                self.assertEqual(question(at, most=10 ** 9), told)
                self.assertEqual(walker.steps, needed)
                if needed > 1:
                    for most in {1, needed - 1}:
                        refusal = self.refused(question, at, most=most)
                        self.assertIsInstance(refusal, TooMuch)
                        self.assertEqual((refusal.most, walker.steps, walker.busy), (most, most, False))
                self.assertEqual(question(at), told)
                self.assertIs(walker.busy, False)

    def test_within_onces_and_looks(self):
        for pattern in ("(!(a|a)*b)", "(>(a|a)*b)", "(>~(a|a)*b)", "a{9}(<(a|a)*b)", "(!(>(a|a)*b)|a)"):
            walker = Walker(made(pattern), "a" * 9)
            needed = walker.toil(0)
            self.assertGreater(needed, 500)
            for most in (1, 2, 100, needed - 1):
                self.assertEqual(self.refused(walker.toil, 0, most=most).most, most)
                self.assertEqual(walker.steps, most)
                self.assertIs(walker.busy, False)
            self.assertEqual(walker.toil(0, most=needed), needed)

    def test_twenty_thousand_where_it_is_left_out(self):
        self.assertEqual(MOST_STEPS, 20000)
        walker = Walker(made("(a|a)*b"), "a" * 40)
        for question in (walker.first, walker.ways, walker.toil):
            refusal = self.refused(question, 0)
            self.assertIsInstance(refusal, TooMuch)
            self.assertEqual((refusal.most, walker.steps, walker.busy), (20000, 20000, False))

    def test_just_twenty_thousand(self):
        # Each edge ahead of it is one step more.
        for edges, steps in ((0, 19997), (2, 19999), (3, 20000)):
            walker = Walker(made("@<" * edges + "a*a*b"), "a" * 98)
            self.assertEqual((walker.toil(0), walker.steps), (steps, steps))
            self.assertEqual((walker.ways(0), walker.first(0), walker.steps), ([], None, steps))
        walker = Walker(made("@<" * 4 + "a*a*b"), "a" * 98)
        for question in (walker.first, walker.ways, walker.toil):
            self.assertEqual(self.refused(question, 0).most, 20000)
            self.assertEqual(walker.steps, 20000)
        self.assertEqual(walker.toil(0, most=20001), 20001)

    def test_steps_ahead_of_the_first_asking_and_behind_no_place(self):
        walker = Walker(made("a*"), "aa")
        self.assertEqual((walker.steps, walker.busy, walker.text), (0, False, "aa"))
        self.assertIsInstance(self.refused(walker.first, 9), NoPlace)
        self.assertEqual((walker.steps, walker.busy), (0, False))
        walker.first(0)
        for question in (walker.first, walker.ways, walker.toil):
            for at in (-1, 3, True, None):
                self.refused(question, at)
                self.assertEqual((walker.steps, walker.busy), (9, False))
        self.refused(walker.first, 0, most=4)
        self.refused(walker.first, "0", most=2)
        self.assertEqual((walker.steps, walker.busy), (4, False))

    def test_no_place_of_whatever_it_is(self):
        for text in ("", "aab"):
            walker = Walker(made("a*"), text)
            for thing in no_places(text):
                for question in (walker.first, walker.ways, walker.toil):
                    refusal = self.refused(question, thing)
                    self.assertIsInstance(refusal, NoPlace)
                    self.assertIs(refusal.at, thing)

    def test_no_place_ahead_of_too_much(self):
        walker = Walker(made("(a|a)*b"), "a" * 9)
        for thing in no_places("a" * 9):
            for question in (walker.first, walker.ways, walker.toil):
                self.assertIsInstance(self.refused(question, thing, most=1), NoPlace)

    def test_busy_while_it_answers(self):
        seen = []
        walker = Walker(made("@-"), "ab")

        def looked(kind, text, place):
            seen.append((walker.busy, other.busy))
            return True

        other = Walker(made("@-"), "ab")
        with mock.patch.object(walker_file, "edge_holds", looked):
            walker.first(0), walker.ways(1), walker.toil(2)
        self.assertEqual(seen, [(True, False)] * 3)
        self.assertIs(walker.busy, False)


class AgainstOthers(Asking):
    """Against routes of the code and ends of the tree, both found another way."""

    def assert_alike(self, pattern, text):
        walker = Walker(pattern, text)
        meaning = Meaning(pattern.tree, text)
        for at in range(len(text) + 1):
            ways = plain_ways(walker.ways(at))
            self.assertEqual(ways, told_ways(pattern.code(), text, at, pattern.groups)[0], (pattern.tree, text, at))
            self.assertEqual(ways, meaning.ways(at), (pattern.tree, text, at))
            first = walker.first(at)
            self.assertEqual(plain_ways([first]) if first else [], ways[:1])

    def test_patterns_of_all_words_by_chance(self):
        chance = rng(21)
        for pattern in small_patterns(chance, 500, EVERY, "abA\n"):
            for _ in range(3):
                self.assert_alike(pattern, "".join(chance.choices("aabbA\n", k=chance.randrange(7))))

    def test_plain_patterns_and_all_short_texts(self):
        chance = rng(22)
        for pattern in small_patterns(chance, 40, PLAIN):
            for text in texts_over("ab", 4):
                self.assert_alike(pattern, text)

    def test_deep_and_long_ones(self):
        for wrap in (
            lambda part: ("once", part), lambda part: ("look", "ahead", part), lambda part: ("look", "nobehind", part),
            lambda part: ("flags", "a", "", part), lambda part: ("row", (part, EMPTY)),
        ):
            self.assert_alike(Pattern(nested(39, A, wrap)), "aA")
        self.assert_alike(Pattern(("many", ("row", (A, B)), 20, 20, "most")), "ab" * 20)
        walker = Walker(made("(:.)*"), "x" * 400)
        way = walker.first(0)
        self.assertEqual((way.end, way.spans, way.choices), (400, ((399, 400),), (0,) * 400 + (1,)))


class NothingIsChanged(Asking):
    def test_asked_again_in_any_order_with_refusals_in_between(self):
        chance = rng(3)
        for pattern in small_patterns(chance, 60, EVERY, "ab\n"):
            text = "".join(chance.choices("ab\n", k=5))
            walker, other = Walker(pattern, text), Walker(pattern, "b" + text)

            def answer(asked, name, at):
                told = getattr(asked, name)(at)
                told = [told] if isinstance(told, Way) else told
                return (plain_ways(told) if isinstance(told, list) else told, asked.steps)

            askings = [(asked, name, at) for asked in (walker, other) for name in ("first", "ways", "toil")
                       for at in range(6)]
            before = [answer(*asking) for asking in askings]
            order = list(range(len(askings)))
            chance.shuffle(order)
            for number in order:
                for bad in (lambda: walker.ways(at=None), lambda: walker.toil(0, most=1), lambda: other.first(-1)):
                    try:
                        bad()
                    except GlassError:
                        pass
                self.assertEqual(answer(*askings[number]), before[number])
            self.assertEqual((walker.text, other.text), (text, "b" + text))

    def test_told_lists_are_new_ones(self):
        walker = Walker(made("a*"), "aa")
        told = walker.ways(0)
        kept = plain_ways(told)
        told.clear()
        self.assertEqual(plain_ways(walker.ways(0)), kept)
        code = walker.ways(0)
        code.append(None)
        self.assertEqual(plain_ways(walker.ways(0)), kept)

    def test_the_pattern_stays(self):
        pattern = made("(x:a|b)*!(>c)")
        before = (pattern.code(), pattern.names(), pattern.tree, pattern.groups)
        walker = Walker(pattern, "abc")
        code = pattern.code()
        code.clear()
        self.assertEqual(walker.first(0).end, 2)
        self.assertEqual((pattern.code(), pattern.names(), pattern.tree, pattern.groups), before)


if __name__ == "__main__":
    unittest.main()
