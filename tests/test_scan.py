"""Promise 40: scans."""

import unittest

from atomglass.errors import NoPlace, TooMuch
from atomglass.finds import finds
from atomglass.scan import Scan
from tests.small_patterns import FREE, made, plain_ways, small_patterns, texts_over
from tests.things import no_places, rng

WRITTEN = [
    "", "a", "a*", "a*~", "a+", "b|", "|b", "(x:a|b)*", "@<", "@>", "@$", "(>a)", "(<b)", "(<~a)b*", "(!a*)b", "a?",
    "(x:a)?(y:b)?", "(x:.)&x;", ".", "c", "a{2}",
]
TEXTS = list(texts_over("ab", 3)) + ["abba\n", "aaabab", "babba b"]
SLOW = "(a|a)*b"


def place_behind(way, text):
    """Where finds would go on."""
    if way is None:
        return len(text) + 1
    return way.end + (way.end == way.begin)


class Scans(unittest.TestCase):
    def assert_goes_as_finds(self, pattern, text):
        scan = Scan(pattern, text)
        self.assertEqual(scan.place, 0)
        for start in [0, *range(len(text), -1, -1)]:
            scan.back_to(start)
            self.assertEqual(scan.place, start)
            for way in [*finds(pattern, text, start=start), None, None, None]:
                told = scan.go()
                self.assertEqual(told, way, (pattern.tree, text, start))
                self.assertEqual(told and told.choices, way and way.choices)
                self.assertEqual(scan.place, place_behind(way, text), (pattern.tree, text, start))

    def test_written_patterns(self):
        for written in WRITTEN:
            for text in TEXTS:
                self.assert_goes_as_finds(made(written), text)

    def test_patterns_by_chance(self):
        for pattern in small_patterns(rng(40), 150, FREE + ["edge", "back"], "ab\n", most_rows=25):
            for text in TEXTS[3:15:3] + TEXTS[15:]:
                self.assert_goes_as_finds(pattern, text)

    def test_by_hand(self):
        scan = Scan(made("a*"), "baac")
        told = []
        for _ in range(6):
            way = scan.go()
            told.append((way and str(way), scan.place))
        self.assertEqual(told, [("0-0", 1), ("1-3", 3), ("3-3", 4), ("4-4", 5), (None, 5), (None, 5)])
        scan.back_to(2)
        self.assertEqual((str(scan.go()), scan.place), ("2-3", 3))
        self.assertIsNone(scan.back_to(4))
        self.assertEqual((str(scan.go()), scan.place), ("4-4", 5))

    def test_where_there_is_nothing(self):
        for text in ("", "bbb"):
            scan = Scan(made("a"), text)
            for _ in range(3):
                self.assertIsNone(scan.go())
                self.assertEqual(scan.place, len(text) + 1)
            scan.back_to(0)
            self.assertEqual(scan.place, 0)

    def test_what_is_no_place(self):
        for text in ("", "aba"):
            scan = Scan(made("a|"), text)
            for place in [*range(len(text) + 1), None]:
                if place is None:
                    while scan.go() is not None:
                        pass
                else:
                    scan.back_to(place)
                held = scan.place
                for at in no_places(text):
                    with self.assertRaises(NoPlace) as caught:
                        scan.back_to(at)
                    self.assertIs(caught.exception.at, at)
                    self.assertEqual(scan.place, held)
        # Where a scan that has come to its end looks from is no place of the text.
        scan = Scan(made("a"), "b")
        scan.go()
        with self.assertRaises(NoPlace):
            scan.back_to(scan.place)

    def test_the_walker_gives_up(self):
        text = "cb" + "a" * 40 + "b"
        scan = Scan(made("(a|a)*c|b"), text)
        self.assertEqual((str(scan.go()), scan.place), ("0-1", 1))
        self.assertEqual((str(scan.go()), scan.place), ("1-2", 2))
        for _ in range(3):
            with self.assertRaises(TooMuch) as caught:
                scan.go()
            self.assertEqual(caught.exception.most, 20000)
            self.assertEqual(scan.place, 2)
        scan.back_to(1)
        self.assertEqual((str(scan.go()), scan.place), ("1-2", 2))
        scan.back_to(36)
        self.assertEqual((str(scan.go()), scan.place), ("42-43", 43))
        self.assertEqual((scan.go(), scan.place), (None, 44))
        # The refusal may come at a begin behind the place: that stays all the same.
        scan = Scan(made(SLOW), "ccc" + "a" * 40)
        scan.back_to(1)
        with self.assertRaises(TooMuch):
            scan.go()
        self.assertEqual(scan.place, 1)

    def test_each_begin_has_its_own_steps(self):
        self.assertIsNone(Scan(made(SLOW), "aaaaaaaaaac" * 20).go())

    def test_scans_know_nothing_of_one_another(self):
        pattern = made("a|b")
        one, other = Scan(pattern, "abab"), Scan(pattern, "abab")
        third = Scan(pattern, "bb")
        one.go()
        one.go()
        self.assertEqual((one.place, other.place, third.place), (2, 0, 0))
        other.go()
        third.back_to(2)
        self.assertEqual((str(one.go()), str(other.go()), third.go()), ("2-3", "1-2", None))
        self.assertEqual((one.place, other.place, third.place), (3, 2, 3))
        self.assertEqual(plain_ways(finds(pattern, "abab", start=3)), plain_ways([one.go()]))


if __name__ == "__main__":
    unittest.main()
