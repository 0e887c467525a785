"""Promises 18 and 6: the shortest text of a tree, which reads back to just this tree."""

import copy
import itertools
import unittest

from atomglass.errors import NoPattern
from atomglass.faults import fault
from atomglass.reader import read_pattern
from atomglass.writer import show_pattern
from tests.some_trees import A, ANY, B, EMPTY, SINGLES, WHOLE, choice, drawn, group, look, nested, row, star
from tests.things import ORDER, rng

MARKS = "()[]{}|*+?~!.\\&;@:#<>"


def many(least, most, mood="most", part=A):
    return ("many", part, least, most, mood)


SHOWN = {
    # where "(..)" stands, and where it doesn't
    EMPTY: "", row(A, B): "ab", choice(A, B): "a|b", choice(EMPTY, EMPTY): "|", choice(A, EMPTY, row(A, B)): "a||ab",
    row(A, row(A, B)): "a(ab)", row(row(A, B), A): "(ab)a", row(A, EMPTY): "a()", row(EMPTY, EMPTY): "()()",
    row(A, choice(A, B)): "a(a|b)", row(choice(EMPTY, EMPTY), A): "(|)a", choice(A, choice(A, B)): "a|(a|b)",
    choice(choice(A, B), choice(EMPTY, B)): "(a|b)|(|b)", choice(row(A, B), row(B, A)): "ab|ba",
    choice(row(row(A, B), A), B): "(ab)a|b", star(row(A, B)): "(ab)*", star(EMPTY): "()*", star(choice(A, B)): "(a|b)*",
    star(star(A)): "(a*)*", star(many(1, 1)): "(a{1})*", row(star(A), B): "a*b", choice(star(A), B): "a*|b",
    star(group("x", row(A, B))): "(x:ab)*", star(("once", A)): "(!a)*", star(look(A)): "(>a)*", star(ANY): ".*",
    star(("flags", "a", "", A)): "(#a:a)*", star(("back", 1)): "&1;*", star(("edge", "start")): "@<*",
    star(("set", (("a", "b"),), False)): "[a-b]*", row(group("", A), ("once", B)): "(:a)(!b)",
    group("", row(A, B)): "(:ab)", group("", choice(A, B)): "(:a|b)", group("x", EMPTY): "(x:)",
    group("x", star(A)): "(x:a*)",
    group("", row(row(A, B), A)): "(:(ab)a)", ("once", choice(A, B)): "(!a|b)", ("once", EMPTY): "(!)",
    ("once", row(A, star(B))): "(!ab*)", look(choice(A, B)): "(>a|b)", look(row(A, B), "nobehind"): "(<~ab)",
    ("flags", "a", "", choice(A, B)): "(#a:a|b)", group("a", group("b", A)): "(a:(b:a))",
    star(row(star(row(A, B)), choice(A, EMPTY))): "((ab)*(a|))*",
    # times and moods
    many(0, None): "a*", many(1, None): "a+", many(0, 1): "a?", many(1, 1): "a{1}", many(20, 20): "a{20}",
    many(2, None): "a{2,}", many(20, None): "a{20,}", many(0, 2): "a{0,2}", many(1, 2): "a{1,2}",
    many(19, 20): "a{19,20}",
    many(0, None, "few"): "a*~", many(1, None, "once"): "a+!", many(0, 1, "few"): "a?~", many(3, 3, "once"): "a{3}!",
    many(3, None, "few"): "a{3,}~", many(3, 4, "once"): "a{3,4}!",
    # sets
    ("set", (("a", "a"),), False): "[a]", ("set", (("a", "b"),), True): "[^a-b]",
    ("set", (("a", "a"), ("a", "a"), ("z", "z")), False): "[aaz]",
    ("set", tuple((sign, sign) for sign in "]\\^-\n"), False): "[\\]\\\\\\^\\-\\n]",
    ("set", tuple((sign, sign) for sign in "[(.*|)~!"), True): "[^[(.*|)~!]",
    ("set", (("\n", "\n"), ("\n", "-"), ("-", "]"), ("\\", "^")), True): "[^\\n\\n-\\-\\--\\]\\\\-\\^]",
    # the other words
    ANY: ".", ("sign", "\n"): "\\n", ("sign", "n"): "n", ("sign", "\\"): "\\\\", ("sign", "^"): "^", ("sign", "-"): "-",
    look(A): "(>a)", look(A, "noahead"): "(>~a)", look(A, "behind"): "(<a)", look(A, "nobehind"): "(<~a)",
    look(("sign", "~")): "(>\\~)", ("flags", "a", "", A): "(#a:a)", ("flags", "l", "", A): "(#l:a)",
    ("flags", "al", "", A): "(#al:a)", ("flags", "", "a", A): "(#-a:a)", ("flags", "", "l", A): "(#-l:a)",
    ("flags", "", "al", A): "(#-al:a)", ("flags", "a", "l", A): "(#a-l:a)", ("flags", "l", "a", A): "(#l-a:a)",
    ("back", "year"): "&year;", ("back", 1): "&1;", ("back", 9): "&9;",
    ("edge", "start"): "@<", ("edge", "end"): "@>", ("edge", "rowstart"): "@^", ("edge", "rowend"): "@$",
    ("edge", "word"): "@/", ("edge", "inner"): "@-",
}


class Showing(unittest.TestCase):
    def assert_reads_back(self, tree):
        text = show_pattern(tree)
        self.assertIsInstance(text, str)
        told = read_pattern(text)
        self.assertEqual(repr(told), repr(tree), text)

    def test_what_is_shown(self):
        for tree, text in SHOWN.items():
            self.assertEqual(show_pattern(tree), text)
            self.assert_reads_back(tree)

    def test_every_word_reads_back(self):
        for tree in [*SINGLES, WHOLE]:
            self.assert_reads_back(tree)

    def test_each_sign(self):
        for sign in ORDER:
            told = "\\n" if sign == "\n" else "\\" + sign if sign in MARKS else sign
            self.assertEqual(show_pattern(("sign", sign)), told)
            self.assert_reads_back(row(("sign", sign), ("sign", sign), star(("sign", sign))))
            self.assert_reads_back(look(("sign", sign)))
            self.assert_reads_back(group("", ("sign", sign)))
            self.assert_reads_back(star(row(("sign", sign), A)))
            self.assert_reads_back(row(("many", A, 0, None, "most"), ("sign", sign)))

    def test_each_pair_of_a_set(self):
        for low in range(95):
            for high in range(low, 95):
                pair = (ORDER[low], ORDER[high])
                self.assert_reads_back(("set", (pair, ("a", "a"), pair), (low + high) % 2 == 0))

    def test_all_times(self):
        for least in range(21):
            for most in [None, *range(max(1, least), 21)]:
                for mood in ("most", "few", "once"):
                    self.assert_reads_back(("many", A, least, most, mood))

    def test_the_bounds(self):
        self.assert_reads_back(row(*[A] * 100))
        self.assert_reads_back(choice(*[EMPTY] * 20))
        self.assert_reads_back(choice(*[B] * 20))
        self.assert_reads_back(("set", (("a", "z"),) * 9, True))
        self.assert_reads_back(group("abcdefgh", ("back", "abcdefgh")))
        self.assert_reads_back(nested(8))

    def test_without_the_bounds_on_signs_and_brackets(self):
        self.assertEqual(show_pattern(nested(9)), "(!" * 9 + "a" + ")" * 9)
        self.assertEqual(show_pattern(nested(39)), "(!" * 39 + "a" + ")" * 39)
        deep = nested(39, A, lambda part: row(part, B))
        self.assertEqual(show_pattern(deep), "(" * 38 + "a" + "b)" * 38 + "b")
        deep = nested(39, A, star)
        self.assertEqual(show_pattern(deep), "(" * 38 + "a" + "*)" * 38 + "*")
        long = row(*[("back", "abcdefgh")] * 100)
        self.assertEqual(show_pattern(long), "&abcdefgh;" * 100)
        with self.assertRaises(NoPattern):
            read_pattern(show_pattern(long))

    def test_faults_other_than_form_and_deep_are_no_matter(self):
        for tree in (star(EMPTY), ("back", 9), look(group("")), row(group("a"), group("a"))):
            self.assertIsNotNone(fault(tree))
            self.assert_reads_back(tree)

    def test_by_chance(self):
        chance = rng(18)
        read = 0
        for _ in range(3000):
            tree = drawn(chance, chance.choice([2, 3, 4, 5]))
            text = show_pattern(tree)
            if len(text) <= 400 and most_open(tree) <= 8:
                self.assert_reads_back(tree)
                read += 1
        self.assertGreater(read, 2000)

    def test_no_text_that_reads_to_a_tree_is_shorter(self):
        for alphabet, longest in (
            ("a(|)*", 6), ("ab()", 7), ("a{1,}", 6), ("a{0,}1", 5), ("a{2,}", 6), ("(:a)", 6), ("[a-^]", 6),
            ("[\\n-]", 6), ("(#a:)", 6), ("(>~!)", 6),
        ):
            shortest = {}
            for length in range(longest + 1):
                for signs in itertools.product(alphabet, repeat=length):
                    text = "".join(signs)
                    try:
                        tree = read_pattern(text)
                    except NoPattern:
                        continue
                    shortest.setdefault(tree, len(text))
            self.assertGreater(len(shortest), 3, alphabet)
            for tree, length in shortest.items():
                self.assertLessEqual(len(show_pattern(tree)), length, tree)
                self.assert_reads_back(tree)

    def test_what_is_read_is_shown_no_longer_and_again_alike(self):
        for text in (
            "(a)", "((a|b))", "(ab)|(a)", "a{0,}", "a{1,}~", "a{0,1}!", "a{2,2}", "[a-aa-b]", "(((())))", "(a)*(b)",
            "((ab))*", "(|)", "(:(a))", "(!((a)))", "(a{1})b", "((a)b)c",
        ):
            shown = show_pattern(read_pattern(text))
            self.assertLessEqual(len(shown), len(text))
            self.assertEqual(read_pattern(shown), read_pattern(text))
            self.assertEqual(show_pattern(read_pattern(shown)), shown)

    def test_nothing_is_changed(self):
        handed = copy.deepcopy(WHOLE)
        first = [show_pattern(tree) for tree in [WHOLE, *SINGLES]]
        again = [show_pattern(tree) for tree in reversed([WHOLE, *SINGLES])]
        self.assertEqual(first, again[::-1])
        self.assertEqual(WHOLE, handed)

    def test_the_very_same_part_at_two_places(self):
        part = row(A, B)
        self.assertEqual(show_pattern(choice(row(part, part), part)), "(ab)(ab)|ab")


def most_open(tree):
    """How many brackets are open at once in the text of a tree, at most."""
    deepest = open_now = 0
    text = show_pattern(tree)
    at, in_set = 0, False
    while at < len(text):
        if text[at] == "\\":
            at += 1
        elif in_set:
            in_set = text[at] != "]"
        elif text[at] == "[":
            in_set = True
        elif text[at] in "()":
            open_now += 1 if text[at] == "(" else -1
            deepest = max(deepest, open_now)
        at += 1
    return deepest


if __name__ == "__main__":
    unittest.main()
