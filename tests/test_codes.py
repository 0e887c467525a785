"""Promises 19 and 20 (and 3 for them): which flags hold where, and the code of a tree."""

import copy
import unittest

from atomglass.codes import code_of
from atomglass.faults import fault
from atomglass.reader import read_pattern
from tests.laid_codes import laid_code
from tests.some_trees import A, ANY, B, EMPTY, SINGLES, WHOLE, choice, drawn, group, look, nested, row, star
from tests.things import ORDER, rng

DONE = ("done",)
KEPT = ("kept",)
C = ("sign", "c")
READ_A = ("read", (("a", "a"),))
READ_B = ("read", (("b", "b"),))
READ_C = ("read", (("c", "c"),))
READ_BOTH_A = ("read", (("A", "A"), ("a", "a")))
READ_ALL = ("read", (("\n", "~"),))
READ_ANY = ("read", ((" ", "~"),))
FLAG_LETTERS = [("a", ""), ("l", ""), ("al", ""), ("", "a"), ("", "l"), ("", "al"), ("a", "l"), ("l", "a")]


def many(part, least, most, mood="most"):
    return ("many", part, least, most, mood)


def of_set(*pairs, others=False):
    return ("set", pairs, others)


def flags(on, off, part):
    return ("flags", on, off, part)


class Codes(unittest.TestCase):
    def assert_code(self, tree, *rows):
        self.assertIsNone(fault(tree), tree)
        told = code_of(tree)
        self.assertEqual(repr(told), repr([*rows, DONE]), tree)
        self.assertEqual(repr(laid_code(tree)), repr(told), tree)

    def assert_as_laid(self, tree):
        self.assertEqual(repr(code_of(tree)), repr(laid_code(tree)), tree)


class Reads(Codes):
    def test_signs(self):
        for sign in ORDER:
            self.assert_code(("sign", sign), ("read", ((sign, sign),)))
            self.assert_code(flags("l", "a", ("sign", sign)), ("read", ((sign, sign),)))
        self.assert_code(flags("a", "", A), READ_BOTH_A)
        self.assert_code(flags("al", "", ("sign", "Z")), ("read", (("Z", "Z"), ("z", "z"))))
        for sign in "\n 0@[`{~_$&":
            self.assert_code(flags("a", "", ("sign", sign)), ("read", ((sign, sign),)))

    def test_any(self):
        self.assert_code(ANY, READ_ANY)
        self.assert_code(flags("a", "", ANY), READ_ANY)
        self.assert_code(flags("l", "", ANY), READ_ALL)
        self.assert_code(flags("al", "", ANY), READ_ALL)
        self.assert_code(flags("", "l", ANY), READ_ANY)

    def test_sets(self):
        self.assert_code(of_set(("a", "c")), ("read", (("a", "c"),)))
        self.assert_code(of_set(("a", "c"), others=True), ("read", (("\n", "`"), ("d", "~"))))
        self.assert_code(flags("a", "", of_set(("a", "c"))), ("read", (("A", "C"), ("a", "c"))))
        # Twins first, then turned: the other way round, every letter would be held.
        turned = ("read", (("\n", "@"), ("D", "`"), ("d", "~")))
        self.assert_code(flags("a", "", of_set(("a", "c"), others=True)), turned)
        self.assert_code(flags("al", "", of_set(("A", "C"), others=True)), turned)
        # The flag lines is nothing to a set: it holds the line feed as it is told.
        self.assert_code(flags("l", "", of_set(("b", "~"), others=True)), ("read", (("\n", "a"),)))
        self.assert_code(flags("l", "", of_set(("\n", " "), others=True)), ("read", (("!", "~"),)))

    def test_sets_that_are_not_settled(self):
        self.assert_code(of_set(("d", "f"), ("a", "c")), ("read", (("a", "f"),)))
        self.assert_code(of_set(("a", "z"), ("c", "d"), ("c", "c")), ("read", (("a", "z"),)))
        self.assert_code(of_set(("&", "&"), ("$", "$")), ("read", (("$", "&"),)))
        self.assert_code(of_set(("c", "c"), ("a", "a")), ("read", (("a", "a"), ("c", "c"))))
        self.assert_code(of_set(("b", "~"), ("\n", "`"), others=True), READ_A)
        self.assert_code(flags("a", "", of_set(("z", "z"), ("Z", "Z"))), ("read", (("Z", "Z"), ("z", "z"))))
        self.assert_code(flags("a", "", of_set(("Z", "["), ("`", "a"))),
                         ("read", (("A", "A"), ("Z", "["), ("`", "a"), ("z", "z"))))

    def test_sets_that_hold_no_sign_or_all(self):
        self.assert_code(of_set(("\n", "~"), others=True), ("read", ()))
        self.assert_code(of_set(("\n", "O"), ("P", "~"), others=True), ("read", ()))
        self.assert_code(flags("a", "", of_set(("\n", "`"), ("{", "~"), others=True)), ("read", ()))
        self.assert_code(of_set(("\n", "~")), READ_ALL)

    def test_all_under_the_four_standings(self):
        chance = rng(191)
        for _ in range(60):
            pairs = [sorted([chance.randrange(95), chance.randrange(95)]) for _ in range(chance.randrange(1, 10))]
            tree = of_set(*[(ORDER[low], ORDER[high]) for low, high in pairs], others=chance.random() < 0.5)
            for leaf in (tree, ANY, ("sign", chance.choice(ORDER))):
                self.assert_as_laid(leaf)
                for on, off in FLAG_LETTERS:
                    self.assert_as_laid(flags(on, off, leaf))


class RowsAndChoices(Codes):
    def test_rows(self):
        self.assert_code(EMPTY)
        self.assert_code(row(A, B), READ_A, READ_B)
        self.assert_code(row(EMPTY, EMPTY))
        self.assert_code(row(A, row(B, C), EMPTY, A), READ_A, READ_B, READ_C, READ_A)
        self.assert_code(row(*[A] * 100), *[READ_A] * 100)

    def test_choices(self):
        self.assert_code(choice(A, B), ("fork", 1, 3), READ_A, ("go", 4), READ_B)
        self.assert_code(choice(A, B, C),
                         ("fork", 1, 3), READ_A, ("go", 7), ("fork", 4, 6), READ_B, ("go", 7), READ_C)
        self.assert_code(choice(EMPTY, EMPTY), ("fork", 1, 2), ("go", 2))
        self.assert_code(choice(EMPTY, A, EMPTY), ("fork", 1, 2), ("go", 5), ("fork", 3, 5), READ_A, ("go", 5))
        self.assert_code(row(C, choice(row(A, B), A), C),
                         READ_C, ("fork", 2, 5), READ_A, READ_B, ("go", 6), READ_A, READ_C)

    def test_choices_of_two_to_twenty(self):
        for size in range(2, 21):
            rows = []
            for at in range(size - 1):
                rows += [("fork", 3 * at + 1, 3 * at + 3), READ_A, ("go", 3 * size - 2)]
            self.assert_code(choice(*[A] * size), *rows, READ_A)

    def test_choices_within_choices(self):
        self.assert_code(choice(choice(A, B), C),
                         ("fork", 1, 6), ("fork", 2, 4), READ_A, ("go", 5), READ_B, ("go", 7), READ_C)
        self.assert_code(choice(C, choice(A, B)),
                         ("fork", 1, 3), READ_C, ("go", 7), ("fork", 4, 6), READ_A, ("go", 7), READ_B)


class Manys(Codes):
    def test_without_a_most(self):
        self.assert_code(star(A), ("fork", 1, 3), READ_A, ("go", 0))
        self.assert_code(many(A, 0, None, "few"), ("fork", 3, 1), READ_A, ("go", 0))
        self.assert_code(many(A, 0, None, "once"), ("once", 5), ("fork", 2, 4), READ_A, ("go", 1), KEPT)
        self.assert_code(many(A, 2, None), READ_A, READ_A, ("fork", 3, 5), READ_A, ("go", 2))
        self.assert_code(many(A, 1, None, "few"), READ_A, ("fork", 4, 2), READ_A, ("go", 1))
        self.assert_code(row(B, many(A, 1, None, "once"), B),
                         READ_B, ("once", 7), READ_A, ("fork", 4, 6), READ_A, ("go", 3), KEPT, READ_B)

    def test_with_a_most(self):
        self.assert_code(many(A, 0, 1), ("fork", 1, 2), READ_A)
        self.assert_code(many(A, 0, 1, "few"), ("fork", 2, 1), READ_A)
        self.assert_code(many(A, 0, 1, "once"), ("once", 4), ("fork", 2, 3), READ_A, KEPT)
        self.assert_code(many(A, 0, 2), ("fork", 1, 4), READ_A, ("fork", 3, 4), READ_A)
        self.assert_code(many(A, 1, 3, "few"), READ_A, ("fork", 5, 2), READ_A, ("fork", 5, 4), READ_A)
        self.assert_code(row(B, many(A, 1, 3, "once"), B), READ_B,
                         ("once", 8), READ_A, ("fork", 4, 7), READ_A, ("fork", 6, 7), READ_A, KEPT, READ_B)

    def test_least_equal_to_most(self):
        for times in range(1, 21):
            self.assert_code(many(A, times, times), *[READ_A] * times)
            self.assert_code(many(A, times, times, "few"), *[READ_A] * times)
            self.assert_code(many(A, times, times, "once"), ("once", times + 2), *[READ_A] * times, KEPT)

    def test_parts_without_rows(self):
        self.assert_code(many(EMPTY, 0, 1), ("fork", 1, 1))
        self.assert_code(many(EMPTY, 3, 3))
        self.assert_code(many(EMPTY, 1, 3), ("fork", 1, 2), ("fork", 2, 2))
        self.assert_code(many(EMPTY, 1, 3, "few"), ("fork", 2, 1), ("fork", 2, 2))
        self.assert_code(many(EMPTY, 2, 2, "once"), ("once", 2), KEPT)

    def test_all_counts(self):
        for least in range(21):
            for most in [None, *range(max(1, least), 21)]:
                for mood in ("most", "few", "once"):
                    self.assert_as_laid(row(B, many(A, least, most, mood), B))
                    self.assert_as_laid(many(choice(A, row(A, B)), least, most, mood))

    def test_a_many_within_a_many(self):
        self.assert_code(many(row(B, many(A, 0, 1)), 2, 2),
                         READ_B, ("fork", 2, 3), READ_A, READ_B, ("fork", 5, 6), READ_A)
        self.assert_code(star(row(B, star(A))),
                         ("fork", 1, 6), READ_B, ("fork", 3, 5), READ_A, ("go", 2), ("go", 0))
        self.assert_code(many(many(A, 1, 2, "few"), 1, 2, "once"), ("once", 9),
                         READ_A, ("fork", 4, 3), READ_A, ("fork", 5, 8), READ_A, ("fork", 8, 7), READ_A, KEPT)
        for outer in ("most", "few", "once"):
            for inner in ("most", "few", "once"):
                self.assert_as_laid(many(row(B, many(A, 1, 3, inner)), 2, None, outer))
                self.assert_as_laid(many(row(B, many(A, 2, None, inner)), 0, 4, outer))

    def test_many_levels_without_rows_are_laid_at_once(self):
        self.assertEqual(code_of(nested(39, EMPTY, lambda part: many(part, 20, 20))), [DONE])
        self.assertEqual(code_of(nested(38, many(EMPTY, 0, 1), lambda part: row(EMPTY, part))), [("fork", 1, 1), DONE])


class OtherWords(Codes):
    def test_onces(self):
        self.assert_code(("once", A), ("once", 3), READ_A, KEPT)
        self.assert_code(("once", EMPTY), ("once", 2), KEPT)
        self.assert_code(row(B, ("once", ("once", A)), B), READ_B, ("once", 6), ("once", 5), READ_A, KEPT, KEPT, READ_B)
        self.assert_code(("once", many(A, 0, 1, "once")),
                         ("once", 6), ("once", 5), ("fork", 3, 4), READ_A, KEPT, KEPT)

    def test_the_case_of_the_document(self):
        self.assert_code(read_pattern("a(!b|bc)c"), READ_A, ("once", 8), ("fork", 3, 5), READ_B, ("go", 7),
                         READ_B, READ_C, KEPT, READ_C)

    def test_looks(self):
        for way in ("ahead", "behind", "noahead", "nobehind"):
            self.assert_code(look(A, way), ("look", way, 3), READ_A, KEPT)
            self.assert_code(row(B, look(row(A, look(B, way)), way), C),
                             READ_B, ("look", way, 7), READ_A, ("look", way, 6), READ_B, KEPT, KEPT, READ_C)

    def test_groups(self):
        self.assert_code(group("x"), ("open", 1), READ_A, ("close", 1))
        self.assert_code(row(group("", row(A, group("b", B))), group("c", C)), ("open", 1), READ_A, ("open", 2),
                         READ_B, ("close", 2), ("close", 1), ("open", 3), READ_C, ("close", 3))
        self.assert_code(choice(group("", A), row(B, B), group("", C)), ("fork", 1, 5), ("open", 1), READ_A,
                         ("close", 1), ("go", 12), ("fork", 6, 9), READ_B, READ_B, ("go", 12), ("open", 2), READ_C,
                         ("close", 2))

    def test_groups_of_a_part_that_is_laid_several_times(self):
        rows = [("open", 1), READ_A, ("close", 1)]
        self.assert_code(many(group("", A), 3, 3), *rows * 3)
        self.assert_code(row(many(group("", A), 1, 2), group("", B)),
                         *rows, ("fork", 4, 7), *rows, ("open", 2), READ_B, ("close", 2))
        self.assert_code(row(group("", B), many(row(group("x", A), group("y", C)), 2, 2), group("z", B)),
                         ("open", 1), READ_B, ("close", 1),
                         *[("open", 2), READ_A, ("close", 2), ("open", 3), READ_C, ("close", 3)] * 2,
                         ("open", 4), READ_B, ("close", 4))
        self.assert_code(many(many(group("", row(A, group("", B))), 2, 2), 2, 2),
                         *[("open", 1), READ_A, ("open", 2), READ_B, ("close", 2), ("close", 1)] * 4)

    def test_backs(self):
        self.assert_code(row(group("x"), ("back", "x")), ("open", 1), READ_A, ("close", 1), ("back", 1, False))
        self.assert_code(row(group("x"), group("y"), ("back", "y"), ("back", 1)), ("open", 1), READ_A, ("close", 1),
                         ("open", 2), READ_A, ("close", 2), ("back", 2, False), ("back", 1, False))
        self.assert_code(row(("back", "y"), group(""), group("y")), ("back", 2, False), ("open", 1), READ_A,
                         ("close", 1), ("open", 2), READ_A, ("close", 2))
        self.assert_code(row(group("x", ("back", "x")), flags("a", "", ("back", 1)), ("back", 1)),
                         ("open", 1), ("back", 1, False), ("close", 1), ("back", 1, True), ("back", 1, False))
        self.assert_code(row(look(flags("al", "", ("back", "q"))), group("q")), ("look", "ahead", 3),
                         ("back", 1, True), KEPT, ("open", 1), READ_A, ("close", 1))
        nine = row(*[group("") for _ in range(9)], ("back", 9))
        self.assertEqual(code_of(nine)[-2:], [("back", 9, False), DONE])

    def test_edges(self):
        for kind in ("start", "end", "rowstart", "rowend", "word", "inner"):
            self.assert_code(("edge", kind), ("edge", kind))
            self.assert_code(flags("al", "", row(A, ("edge", kind))), READ_BOTH_A, ("edge", kind))

    def test_every_word(self):
        for tree in [*SINGLES, WHOLE]:
            self.assert_as_laid(tree)
            self.assert_as_laid(row(tree, B))
            if tree[0] != "edge":
                self.assert_as_laid(many(tree, 2, 3, "few"))


class Flags(Codes):
    """A sign, any sign, and a back, each of which is another row under another standing."""

    def leaf(self):
        return row(A, ANY, ("back", 1))

    def rows(self, alike, lines):
        return [READ_BOTH_A if alike else READ_A, READ_ALL if lines else READ_ANY, ("back", 1, alike)]

    def assert_standing(self, tree, *standings):
        rows = []
        for alike, lines in standings:
            rows += self.rows(alike, lines)
        self.assert_code(row(group("", B), tree), ("open", 1), READ_B, ("close", 1), *rows)

    def test_without_any(self):
        self.assert_standing(self.leaf(), (False, False))

    def test_each_letter_alone_and_both(self):
        for on, off in FLAG_LETTERS:
            self.assert_standing(flags(on, off, self.leaf()), ("a" in on, "l" in on))

    def test_flags_within_flags(self):
        for on, off in FLAG_LETTERS:
            for inner_on, inner_off in FLAG_LETTERS:
                alike = "a" in inner_on or "a" in on and "a" not in inner_off
                lines = "l" in inner_on or "l" in on and "l" not in inner_off
                inner = flags(inner_on, inner_off, self.leaf())
                self.assert_standing(flags(on, off, inner), (alike, lines))
                outside = ("a" in on, "l" in on)
                both = flags(on, off, row(self.leaf(), inner, self.leaf()))
                self.assert_standing(row(self.leaf(), both, self.leaf()),
                                     (False, False), outside, (alike, lines), outside, (False, False))

    def test_three_within_each_other(self):
        tree = flags("al", "", flags("", "a", flags("a", "l", self.leaf())))
        self.assert_standing(tree, (True, False))
        tree = flags("a", "", flags("l", "", flags("", "a", self.leaf())))
        self.assert_standing(tree, (False, True))

    def test_through_every_word(self):
        self.assert_code(flags("a", "", group("", A)), ("open", 1), READ_BOTH_A, ("close", 1))
        self.assert_code(flags("a", "", ("once", A)), ("once", 3), READ_BOTH_A, KEPT)
        self.assert_code(flags("a", "", look(A)), ("look", "ahead", 3), READ_BOTH_A, KEPT)
        self.assert_code(flags("a", "", many(A, 2, 2)), READ_BOTH_A, READ_BOTH_A)
        self.assert_code(flags("l", "", choice(ANY, ANY)), ("fork", 1, 3), READ_ALL, ("go", 4), READ_ALL)

    def test_groups_are_numbered_through_flags(self):
        self.assert_code(row(flags("a", "", group("", A)), group("", A)),
                         ("open", 1), READ_BOTH_A, ("close", 1), ("open", 2), READ_A, ("close", 2))


class ByChance(Codes):
    def test_by_chance(self):
        chance = rng(20)
        laid = 0
        for _ in range(6000):
            tree = drawn(chance, chance.choice([2, 3, 4, 5]))
            if fault(tree) is None:
                self.assert_as_laid(tree)
                laid += 1
        self.assertGreater(laid, 1500)

    def test_no_longer_than_is_allowed(self):
        tree = many(row(*[A] * 14, ("edge", "end")), 19, 19)
        self.assert_as_laid(row(tree, many(B, 14, 14)))
        self.assertEqual(len(code_of(row(tree, many(B, 14, 14)))), 300)


class NothingIsChanged(Codes):
    def test_each_list_is_a_new_one(self):
        told = code_of(WHOLE)
        kept = list(told)
        told.clear()
        self.assertEqual(code_of(WHOLE), kept)
        code_of(WHOLE).append(("done",))
        self.assertEqual(code_of(WHOLE), kept)

    def test_trees_stay_and_answers_stay(self):
        trees = [WHOLE, *SINGLES]
        handed = copy.deepcopy(trees)
        first = [code_of(tree) for tree in trees]
        again = [code_of(tree) for tree in reversed(trees)]
        self.assertEqual(first, again[::-1])
        self.assertEqual(trees, handed)

    def test_the_very_same_part_at_two_places(self):
        part = group("", A)
        self.assert_code(row(part, part), ("open", 1), READ_A, ("close", 1), ("open", 2), READ_A, ("close", 2))
        self.assert_code(row(A, flags("a", "", A), A), READ_A, READ_BOTH_A, READ_A)


if __name__ == "__main__":
    unittest.main()
