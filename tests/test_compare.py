"""Promises 32 and 33, and 7 as far as it speaks of two patterns compared (and 3 and 4 for them)."""

import itertools
import unittest

from atomglass.compare import MOST_PAIRS, compared, stand_behind
from atomglass.errors import GlassError, TooMany, Unfit
from atomglass.pattern import Pattern
from tests.all_routes import Routes
from tests.small_patterns import PLAIN, UNFIT, made, small_patterns, texts_over
from tests.things import ORDER, rng
from tests.tree_ways import Meaning

WORDS = PLAIN + ["flags"]


def stand_by_routes(pattern, text):
    """The stand behind a text, found by going through all routes one after another."""
    routes = Routes(pattern.code(), text)
    for _ in routes.go(0, (0, {}, {}, ())):
        pass
    return tuple(sorted({row for row, place in routes.entered
                         if place == len(text) and pattern.code()[row][0] in ("read", "done")}))


def all_pairs(one, other, most, signs=ORDER):
    """All pairs of stands with their first texts, found with every sign; at most so many, and one more."""
    first = {(stand_by_routes(one, ""), stand_by_routes(other, "")): ""}
    waiting = [""]
    while waiting:
        longer = []
        for text in waiting:
            for sign in signs:
                pair = (stand_by_routes(one, text + sign), stand_by_routes(other, text + sign))
                if pair not in first:
                    first[pair] = text + sign
                    longer.append(text + sign)
                    if len(first) > most:
                        return first
        waiting = longer
    return first


def parted_at(one, other, first, most):
    """The first text of the first most pairs behind which just one has done, or None."""
    done_of_one, done_of_other = len(one.code()) - 1, len(other.code()) - 1
    for (left, right), text in list(first.items())[:most]:
        if (done_of_one in left) != (done_of_other in right):
            return text
    return None


def takes_whole(pattern, text):
    return len(text) in [end for end, spans, choices in Meaning(pattern.tree, text).ways(0)]


class Stands(unittest.TestCase):
    def test_by_hand(self):
        for written, text, stand in (
            ("a", "", (0,)), ("a", "a", (1,)), ("a", "b", ()), ("a", "aa", ()),
            ("", "", (0,)), ("", "a", ()),
            # fork 1 3, read a, go 0, done.
            ("a*", "", (1, 3)), ("a*", "a", (1, 3)), ("a*", "aa", (1, 3)), ("a*", "b", ()),
            # fork 1 3, read a, go 5, read a, read b, done.
            ("a|ab", "", (1, 3)), ("a|ab", "a", (4, 5)), ("a|ab", "ab", (5,)), ("a|ab", "b", ()),
            # open, read a, close, done.
            ("(x:a)", "", (1,)), ("(x:a)", "a", (3,)),
            # With "few" the fork leads behind the many first; a stand rises all the same.
            ("a*~b", "", (1, 3)), ("a*~b", "a", (1, 3)), ("a*~b", "ab", (4,)),
            ("[^\\n-~]", "", (0,)), ("[^\\n-~]", "a", ()),
            ("(){0,2}", "", (2,)),
        ):
            self.assertEqual(stand_behind(made(written), text), stand, (written, text))

    def test_by_all_routes(self):
        chance = rng(32)
        for pattern in small_patterns(chance, 100, WORDS, "abA\n"):
            for _ in range(8):
                text = "".join(chance.choices("aabbA\n", k=chance.randrange(6)))
                stand = stand_behind(pattern, text)
                self.assertIsInstance(stand, tuple)
                self.assertEqual(stand, stand_by_routes(pattern, text), (pattern.tree, text))

    def test_done_is_in_it_just_where_the_text_is_taken_whole(self):
        chance = rng(33)
        for pattern in small_patterns(chance, 60, WORDS):
            done = len(pattern.code()) - 1
            for text in texts_over("ab", 4):
                self.assertEqual(done in stand_behind(pattern, text), takes_whole(pattern, text))

    def test_refused(self):
        for written, word in UNFIT:
            with self.assertRaises(Unfit) as caught:
                stand_behind(made(written), "a")
            self.assertEqual(caught.exception.word, word)

    def test_long_texts(self):
        self.assertEqual(stand_behind(made("(a|a)*"), "a" * 400), (2, 4, 6))


class Compared(unittest.TestCase):
    def assert_alike(self, one, other, *rows):
        self.assertEqual(compared(made(one), made(other)), ("alike", list(rows)), (one, other))

    def assert_parted(self, one, other, text):
        self.assertEqual(compared(made(one), made(other)), ("parted", text), (one, other))
        self.assertEqual(compared(made(other), made(one)), ("parted", text), (one, other))

    def test_alike_by_hand(self):
        self.assert_alike("", "", ("", (0,), (0,)), ("\n", (), ()))
        self.assert_alike("a", "a", ("", (0,), (0,)), ("\n", (), ()), ("a", (1,), (1,)))
        self.assert_alike("(#l:.*)", "(#l:.*)", ("", (1, 3), (1, 3)))
        self.assert_alike("(#l:.*)", "(#l:.*~)", ("", (1, 3), (1, 3)))
        self.assert_alike("a*", "(a|aa)*", ("", (1, 3), (2, 4, 7)), ("\n", (), ()), ("a", (1, 3), (2, 4, 5, 7)))
        self.assert_alike("[b-d]", "b|[cd]", ("", (0,), (1, 3)), ("\n", (), ()), ("b", (1,), (4,)))
        # Two patterns that take nothing at all.
        self.assert_alike("[^\\n-~]", "[^\\n-~]a", ("", (0,), (0,)), ("\n", (), ()))
        # The empty stand is a stand, too: behind a line feed no route is left.
        self.assert_alike("ab|b", "[a]?b", ("", (1, 4), (1, 2)), ("\n", (), ()), ("a", (2,), (2,)), ("b", (5,), (3,)))

    def test_parted_by_hand(self):
        self.assert_parted("a", "", "")
        self.assert_parted("a", "b", "a")
        self.assert_parted("ab", "a.", "a ")
        self.assert_parted(".", "(#l:.)", "\n")
        self.assert_parted("a*", "a+", "")
        self.assert_parted("a*", "a{0,3}", "aaaa")
        self.assert_parted("(a|b)*", "(a|ab|b)*c?", "c")
        self.assert_parted("[a-c]", "[a-d]", "d")
        self.assert_parted("a", "(#a:a)", "A")
        self.assert_parted("b|aa", "b|aaa|aa", "aaa")
        self.assert_parted("(aa)*", "(aaa)*", "aa")
        self.assert_parted("z|ab", "z", "ab")
        self.assert_parted("[^a]", "[^b]", "a")
        self.assert_parted("x", "[^\\n-~]", "x")
        self.assert_parted(".*a..", ".*a...", "a  ")

    def test_the_same_pattern(self):
        for written in ("", "a", "(a|b)*a(a|b){2}", "(x:a)*b?"):
            word, rows = compared(made(written), made(written))
            self.assertEqual(word, "alike")
            self.assertTrue(all(left == right for text, left, right in rows))

    def check(self, one, other, most, signs):
        first = all_pairs(one, other, most, signs)
        parted = parted_at(one, other, first, most)
        if parted is not None:
            self.assertEqual(compared(one, other, most=most), ("parted", parted))
        elif len(first) > most:
            with self.assertRaises(TooMany) as caught:
                compared(one, other, most=most)
            self.assertEqual(caught.exception.most, most)
        else:
            rows = [(text, left, right) for (left, right), text in first.items()]
            self.assertEqual(compared(one, other, most=most), ("alike", rows))
        return "parted" if parted is not None else "many" if len(first) > most else "alike"

    def test_with_every_sign(self):
        chance = rng(34)
        patterns = small_patterns(chance, 30, WORDS, "aB\n", most_rows=14)
        seen = {}
        for at in range(0, 30, 2):
            one, other = patterns[at], patterns[at + 1]
            twin = Pattern(("row", (one.tree, ("row", ()))))
            for pair in ((one, other), (one, twin)):
                word = self.check(*pair, 12, ORDER)
                seen[word] = seen.get(word, 0) + 1
        self.assertGreaterEqual(min(seen.get("alike", 0), seen.get("parted", 0)), 5, seen)

    def test_with_the_signs_that_tell_anything(self):
        # No read tells any two other signs apart; of these the line feed or the blank is the first one.
        chance = rng(35)
        seen = {}
        patterns = small_patterns(chance, 220, WORDS, "ab", most_rows=16)
        for at in range(0, 220, 2):
            one, other = patterns[at], patterns[at + 1]
            doubled = Pattern(("choice", (other.tree, other.tree))) if other.groups == 0 else other
            for pair in ((one, other), (other, doubled), (other, other)):
                word = self.check(*pair, chance.choice([1, 2, 3, 8, 20]), "\n !ABab")
                seen[word] = seen.get(word, 0) + 1
        self.assertGreaterEqual(min(seen.get(word, 0) for word in ("alike", "parted", "many")), 20, seen)

    def test_what_is_told_of_all_texts(self):
        chance = rng(36)
        patterns = small_patterns(chance, 120, WORDS)
        words = set()
        for at in range(0, 120, 2):
            one, other = patterns[at], patterns[at + 1]
            word, told = compared(one, other, most=400)
            words.add(word)
            if word == "parted":
                self.assertNotEqual(takes_whole(one, told), takes_whole(other, told))
            for text in texts_over("\n ab", 4):
                if word == "parted" and (len(text), text) >= (len(told), told):
                    break
                self.assertEqual(takes_whole(one, text), takes_whole(other, text), (one.tree, other.tree, text))
        self.assertIn("parted", words)

    def test_the_table_of_pairs_is_closed(self):
        for one, other in (("(a|b)*a(a|b){3}", "[ab]*a[ab]{3}"), ("(ab|a)*", "(ab?)*"), ("(#a:a*b)", "[aA]*[bB]")):
            one, other = made(one), made(other)
            word, rows = compared(one, other)
            self.assertEqual(word, "alike")
            pairs = {(left, right): text for text, left, right in rows}
            self.assertEqual(len(pairs), len(rows))
            texts = [text for text, left, right in rows]
            self.assertEqual(texts, sorted(texts, key=lambda text: (len(text), [ORDER.index(sign) for sign in text])))
            for text, left, right in rows:
                self.assertEqual((stand_behind(one, text), stand_behind(other, text)), (left, right))
                self.assertEqual(len(one.code()) - 1 in left, len(other.code()) - 1 in right)
                for sign in ORDER:
                    longer = text + sign
                    pair = (stand_behind(one, longer), stand_behind(other, longer))
                    self.assertLessEqual((len(pairs[pair]), pairs[pair]), (len(longer), longer))


class Bounds(unittest.TestCase):
    def test_two_hundred_where_it_is_left_out(self):
        self.assertEqual(MOST_PAIRS, 200)
        # "x{n}" with itself: n + 1 stands along it, and the empty one.
        for many, told in ((198, True), (199, False)):
            written = "x{20}" * 9 + "x{" + str(many - 180) + "}"
            pattern = made(written)
            if told:
                word, rows = compared(pattern, pattern)
                self.assertEqual((word, len(rows)), ("alike", 200))
                self.assertEqual(rows[-1][0], "x" * 198)
            else:
                with self.assertRaises(TooMany) as caught:
                    compared(pattern, pattern)
                self.assertEqual(caught.exception.most, 200)

    def test_at_just_as_many_pairs_and_at_one_fewer(self):
        for one, other in (("a", "a"), ("a*", "(a|aa)*"), ("ab|b", "[a]?b"), ("(a|b)*a(a|b){3}", "[ab]*a[ab]{3}")):
            one, other = made(one), made(other)
            word, rows = compared(one, other)
            self.assertEqual(compared(one, other, most=len(rows)), ("alike", rows))
            self.assertEqual(compared(one, other, most=400), ("alike", rows))
            for most in range(1, len(rows)):
                with self.assertRaises(TooMany) as caught:
                    compared(one, other, most=most)
                self.assertEqual(caught.exception.most, most)
            self.assertEqual(compared(one, other), ("alike", rows))

    def test_parted_at_just_as_many_pairs_and_at_one_fewer(self):
        # Pairs behind "", the line feed, a, aa, aaa; behind aaaa only one of them has done.
        one, other = made("a*"), made("a{0,3}")
        self.assertEqual(compared(one, other, most=6), ("parted", "aaaa"))
        for most in range(1, 6):
            with self.assertRaises(TooMany) as caught:
                compared(one, other, most=most)
            self.assertEqual(caught.exception.most, most)
        self.assertEqual(compared(made(""), made("a"), most=1), ("parted", ""))
        self.assertEqual(compared(made("(#l:.)*"), made("(#l:.*)"), most=1)[0], "alike")


class Refused(unittest.TestCase):
    def refusal(self, *patterns, **more):
        with self.assertRaises(GlassError) as caught:
            compared(*patterns, **more)
        return caught.exception

    def test_the_first_ones_refusal_first(self):
        for (one, word), (other, other_word) in itertools.product(UNFIT[::2], UNFIT[1::3]):
            for left, right, told in ((one, other, word), (other, one, other_word), (one, "a", word), ("a", one, word)):
                refusal = self.refusal(made(left), made(right), most=1)
                self.assertIsInstance(refusal, Unfit)
                self.assertEqual(refusal.word, told)


class NothingIsChanged(unittest.TestCase):
    def test_asked_again_with_refusals_in_between(self):
        pairs = [("a*", "(a|aa)*"), ("ab", "a."), ("a*", "a{0,3}"), ("(x:a)b", "ab")]
        before = [compared(made(one), made(other)) for one, other in pairs]
        for (one, other), told in list(zip(pairs, before))[::-1]:
            one, other = made(one), made(other)
            code = one.code()
            with self.assertRaises(TooMany):
                compared(made("a{9}"), made("a{9}"), most=3)
            with self.assertRaises(Unfit):
                compared(one, made("@<"))
            self.assertEqual(compared(one, other), told)
            self.assertEqual(one.code(), code)

    def test_told_lists_are_new_ones(self):
        one, other = made("a*"), made("(a|aa)*")
        told = compared(one, other)
        kept = list(told[1])
        told[1].clear()
        self.assertEqual(compared(one, other), ("alike", kept))


if __name__ == "__main__":
    unittest.main()
