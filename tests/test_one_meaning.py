"""Promise 5: walker, threads and table tell the same, over many small patterns and all short texts."""

import unittest

from atomglass.compare import compared, stand_behind
from atomglass.errors import Unfit
from atomglass.pattern import Pattern
from atomglass.table import Table
from atomglass.threads import Threads
from atomglass.walker import Walker
from tests.small_patterns import FREE, PLAIN, made, small_patterns, texts_over
from tests.some_trees import A, B, EMPTY
from tests.things import rng

TWO = list(texts_over("ab", 5))
THREE = list(texts_over("ab\n", 3))

# Small patterns written down, among them such as have routes that meet, empty parts, and looks and onces in all places.
WRITTEN = [
    "", "a", "a|b", "a|a", "|a", "a|", "()?", "(a?){2}", "(a|)(b|)", "a*", "a*~", "a*!", "a+b?", "(a|ab)(b|)", "(ab|a)*",
    "(a|ab)*b", "(a*b*){2}", "(a|b)*a", "(a|b)*~a.", "((a|b)b)*", "(x:a|b)*", "(x:a*)(y:b*)", "((x:a)|(y:b))*",
    "(!a|ab)b", "(!(a|b)*)a", "(!a*)b", "((!a|ab)|b)*", "(>a)(a|b)*", "(a(>b)|b)*", "(.(<~bb))*", "(<a)b*|a", "(>~b).*",
    "@<a*@>", "(a@-|b)*", "(@^.|\\n)*", "(.@$\\n)*", "(#a:A|b)*", "(#l:.)*b", "[^a]*", "[^\\n-~]|a", "(a{2}|b)*",
    "(a{1,2}~b)*", "((a|aa)(a|aa))*", "(:(:a)(:b)?)*",
]


class OneMeaning(unittest.TestCase):
    def assert_the_same(self, pattern, text):
        walker, threads = Walker(pattern, text), Threads(pattern, text)
        for at in range(len(text) + 1):
            way, ways, told = walker.first(at), walker.ways(at), threads.first(at)
            self.assertEqual(way, ways[0] if ways else None)
            self.assertEqual(told, way, (pattern.tree, text, at))
            self.assertEqual(told and told.choices, way and way.choices, (pattern.tree, text, at))
            self.assertEqual(threads.ends(at), sorted({way.end for way in ways}), (pattern.tree, text, at))

    def assert_table_too(self, pattern, table, text):
        walker = Walker(pattern, text)
        for at in range(len(text) + 1):
            way = walker.first(at)
            self.assertEqual(table.stop(text, at), way and way.end, (pattern.tree, text, at))
        whole = len(text) in [way.end for way in walker.ways(0)]
        self.assertIs(table.takes(text), whole)
        self.assertEqual(len(pattern.code()) - 1 in stand_behind(pattern, text), whole)

    def test_written_patterns(self):
        plain = 0
        for written in WRITTEN:
            pattern = made(written)
            try:
                table = Table(pattern)
                plain += 1
            except Unfit:
                table = None
            for text in TWO + THREE:
                self.assert_the_same(pattern, text)
                if table is not None:
                    self.assert_table_too(pattern, table, text)
        self.assertGreater(plain, 25)

    def test_patterns_by_chance_without_backs(self):
        chance = rng(5)
        for pattern in small_patterns(chance, 120, FREE + ["edge"], "ab\n", most_rows=30):
            for text in THREE:
                self.assert_the_same(pattern, text)

    def test_plain_patterns_by_chance(self):
        chance = rng(55)
        for pattern in small_patterns(chance, 100, PLAIN + ["flags"], "ab", most_rows=30):
            table = Table(pattern, most=chance.choice([1, 2, 5, 40]))
            for text in TWO[:31]:
                self.assert_the_same(pattern, text)
                self.assert_table_too(pattern, table, text)

    def test_threads_enter_a_line_where_the_walker_goes_round_for_long(self):
        pattern = made("(a|a)*b")
        for length in (6, 8, 10):
            walker, threads = Walker(pattern, "a" * length), Threads(pattern, "a" * length)
            self.assertGreater(walker.toil(0), 2 ** length)
            threads.ends(0)
            self.assertLessEqual(threads.entered, len(pattern.code()) * (length + 1))

    def test_alike_patterns_are_taken_alike_by_all(self):
        for one, other in (("(ab|a)*", "(ab?)*"), ("a*~b", "a*b"), ("(a|b)*", "[ab]*"), ("(x:a)", "a")):
            one, other = made(one), made(other)
            self.assertEqual(compared(one, other)[0], "alike")
            for text in TWO:
                self.assertEqual(Threads(one, text).ends(0), Threads(other, text).ends(0))
                self.assertIs(Table(one).takes(text), Table(other).takes(text))

    def test_every_small_tree_of_two_levels(self):
        leaves = [A, B, EMPTY, ("set", (("a", "b"),), False), ("look", "ahead", A), ("look", "behind", B), ("once", A)]
        texts = list(texts_over("ab", 3))
        for one in leaves:
            for other in leaves:
                for tree in (("row", (one, other)), ("choice", (one, other)), ("once", ("choice", (one, other)))):
                    for mood in ("most", "few", "once"):
                        pattern = Pattern(("row", (("many", tree, 0, 2, mood), ("many", A, 0, 1, "most"))))
                        for text in texts:
                            self.assert_the_same(pattern, text)


if __name__ == "__main__":
    unittest.main()
