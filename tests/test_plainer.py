"""Promise 35, and 7 as far as it speaks of it: trees made plainer."""

import unittest

from atomglass.codes import code_of
from atomglass.errors import Bad
from atomglass.faults import fault
from atomglass.pattern import Pattern
from atomglass.plainer import plainer
from atomglass.reader import read_pattern
from atomglass.trees import group_names
from atomglass.walker import Walker
from atomglass.writer import show_pattern
from tests.plain_forms import C, faults_of_form, tangled_trees
from tests.small_patterns import FREE, small_patterns, texts_over
from tests.some_trees import A, ANY, B, EMPTY, SINGLES, WHOLE, choice, group, look, nested, row, star
from tests.things import no_strings, rng
from tests.tree_ways import Meaning

TEXTS = list(texts_over("ab", 3)) + ["abcab", "cba", "Ab\nba", "\na\n", "aabbcc", "bAbA", "cab cab", "a\n"]


def signs(text):
    return [("sign", sign) for sign in text]


def spread_set(sign_list):
    """A set of these signs, each of them a pair."""
    return ("set", tuple((sign, sign) for sign in sign_list), False)


class PlainerCase(unittest.TestCase):
    def assert_sound(self, tree, texts=TEXTS):
        """All that is promised of one tree, the meaning told by the walker."""
        told = plainer(tree)
        self.assertIsNone(fault(told), tree)
        self.assertEqual(group_names(told), group_names(tree), tree)
        self.assertLessEqual(len(code_of(told)), len(code_of(tree)), tree)
        self.assertEqual(plainer(told), told, tree)
        self.assertEqual(faults_of_form(told), [], tree)
        pattern, plain = Pattern(tree), Pattern(told)
        for text in texts:
            walker, fellow = Walker(pattern, text), Walker(plain, text)
            for at in range(len(text) + 1):
                way, other = walker.first(at, most=10 ** 6), fellow.first(at, most=10 ** 6)
                self.assertEqual(way, other, (tree, told, text, at))
        return told

    def assert_plainer(self, tree, wanted, texts=TEXTS):
        self.assertEqual(self.assert_sound(tree, texts), wanted)

    def assert_written(self, text, wanted):
        self.assertEqual(show_pattern(self.assert_sound(read_pattern(text))), wanted, text)


class ManyTrees(PlainerCase):
    def test_tangled_trees(self):
        changed = 0
        for tree in tangled_trees(rng(35), 700):
            changed += self.assert_sound(tree) != tree
        self.assertGreater(changed, 300)

    def test_deeply_tangled_trees(self):
        changed = 0
        for tree in tangled_trees(rng(351), 200, depths=(5, 6)):
            changed += self.assert_sound(tree, TEXTS[:9] + TEXTS[15:18]) != tree
        self.assertGreater(changed, 100)

    def test_trees_of_all_words(self):
        for pattern in small_patterns(rng(352), 300, FREE + ["edge", "back"], "ab\n", most_rows=60):
            self.assert_sound(pattern.tree)

    def test_ways_told_of_the_tree_alone(self):
        for tree in tangled_trees(rng(353), 120, depths=(2, 3)):
            told = plainer(tree)
            for text in TEXTS[:15] + ["bAbA", "a\nb"]:
                meaning, plain = Meaning(tree, text), Meaning(told, text)
                for at in range(len(text) + 1):
                    ways, others = meaning.ways(at)[:1], plain.ways(at)[:1]
                    self.assertEqual([way[:2] for way in ways], [way[:2] for way in others], (tree, text, at))

    def test_trees_that_are_plain_stay(self):
        for tree in SINGLES + [WHOLE, row(A, group("x", choice(row(A, B), EMPTY))), ("once", EMPTY), ("once", row(A, B))]:
            if tree not in (("once", A),):
                self.assert_plainer(tree, tree)


class Refusals(unittest.TestCase):
    def assert_bad(self, tree):
        found = fault(tree)
        with self.assertRaises(Bad) as caught:
            plainer(tree)
        self.assertEqual((caught.exception.word, caught.exception.path), found)

    def test_whatever_is_no_tree(self):
        for thing in no_strings() + ["", "a", "sign", ("sign",), ("sign", "ab"), ("row", (A,)), ("row", [A, B]), ["any"]]:
            self.assert_bad(thing)

    def test_each_fault(self):
        for tree, word in (
            (row(A, ("sign", 1)), "form"), (row(group("x"), group("x")), "twice"), (nested(40), "deep"),
            (row(*[group("")] * 10), "groups"), (look(group("")), "inner"), (("back", 1), "back"), (star(EMPTY), "empty"),
            (("many", ("many", A, 20, 20, "most"), 15, 15, "most"), "long"), (row(A, star(look(A))), "empty"),
            (row(group("a"), ("back", "b")), "back"), (("many", A, 1, 1, "all"), "form"), (choice(A), "form"),
        ):
            self.assertEqual(fault(tree)[0], word)
            self.assert_bad(tree)

    def test_a_fault_that_would_be_gone_in_a_plainer_tree(self):
        # Two hundred doubles make the code too long, though only one of them would stay.
        tree = row(*[choice(*[row(*[A] * 3)] * 20)] * 4)
        self.assertEqual(fault(tree), ("long", ()))
        self.assert_bad(tree)
        self.assert_bad(nested(40, wrap=lambda part: ("many", part, 1, 1, "most")))


class Rows(PlainerCase):
    def test_rows_in_rows(self):
        self.assert_plainer(row(A, row(B, C)), row(A, B, C))
        self.assert_plainer(row(row(A, B), row(B, C)), row(A, B, B, C))
        self.assert_plainer(row(row(A, row(B, row(C, A))), B), row(A, B, C, A, B))
        self.assert_plainer(row(A, group("x", row(B, row(C, A)))), row(A, group("x", row(B, C, A))))

    def test_empty_rows(self):
        self.assert_plainer(row(A, EMPTY), A)
        self.assert_plainer(row(EMPTY, EMPTY), EMPTY)
        self.assert_plainer(row(EMPTY, A, EMPTY, B), row(A, B))
        self.assert_plainer(row(row(EMPTY, EMPTY), row(EMPTY, A)), A)
        self.assert_plainer(EMPTY, EMPTY)
        self.assert_plainer(choice(EMPTY, A), choice(EMPTY, A))
        self.assert_plainer(choice(A, row(EMPTY, EMPTY)), choice(A, EMPTY))
        self.assert_plainer(group("x", row(EMPTY, EMPTY)), group("x", EMPTY))
        self.assert_plainer(("many", EMPTY, 0, 3, "few"), ("many", EMPTY, 0, 3, "few"))
        self.assert_plainer(("look", "noahead", EMPTY), ("look", "noahead", EMPTY))

    def test_just_one_hundred_parts(self):
        texts = ["a" * 101, "b" * 40 + "a" * 80, "ab" * 60]
        for outer, inner in ((2, 99), (51, 50), (99, 2), (98, 3), (3, 98)):
            tree = row(*[A] * (outer - 1), row(*[B] * inner))
            self.assert_plainer(tree, row(*[A] * (outer - 1), *[B] * inner), texts)
        for outer, inner in ((2, 100), (52, 50), (100, 2), (99, 3), (3, 99)):
            tree = row(*[A] * (outer - 1), row(*[B] * inner))
            self.assert_plainer(tree, tree, texts)

    def test_several_rows_where_not_all_may_be_laid_flat(self):
        for sizes in ((60, 60), (40, 40, 40), (99, 2, 3), (2, 99, 3), (50, 50, 2), (34, 33, 33), (34, 34, 33), (80, 30, 10)):
            told = self.assert_sound(row(*[row(*[A] * size) for size in sizes]), ["a" * 110])
            self.assertLessEqual(len(told[1]), 100)
            if sum(sizes) <= 100:
                self.assertEqual(told, row(*[A] * sum(sizes)))

    def test_empty_rows_do_not_count_towards_the_hundred(self):
        inner = row(*[B] * 60)
        self.assert_plainer(row(*[A] * 40, inner, *[EMPTY] * 40), row(*[A] * 40, *[B] * 60), ["a" * 40 + "b" * 60])
        self.assert_plainer(row(*[EMPTY] * 50, inner, *[A] * 41), row(inner, *[A] * 41), ["a" * 40 + "b" * 60])
        self.assert_plainer(row(EMPTY, row(*[A] * 100)), row(*[A] * 100), ["a" * 100])

    def test_a_row_that_only_then_is_one(self):
        self.assert_plainer(row(A, ("many", row(B, C), 1, 1, "few")), row(A, B, C))
        self.assert_plainer(row(A, choice(row(B, C), row(B, C))), row(A, B, C))
        self.assert_plainer(row(A, choice(EMPTY, EMPTY)), A)
        self.assert_plainer(row(A, ("many", EMPTY, 1, 1, "most"), B), row(A, B))
        self.assert_plainer(row(A, choice(choice(EMPTY, row(EMPTY, EMPTY)), EMPTY)), A)


class Choices(PlainerCase):
    def test_choices_in_choices(self):
        ab, ba, ca = row(A, B), row(B, A), row(C, A)
        self.assert_plainer(choice(ab, choice(ba, ca)), choice(ab, ba, ca))
        self.assert_plainer(choice(choice(ab, choice(ba, ca)), EMPTY), choice(ab, ba, ca, EMPTY))
        self.assert_plainer(choice(group("", choice(ab, choice(ba, ca))), A), choice(group("", choice(ab, ba, ca)), A))

    def test_just_twenty_parts(self):
        rows = [row(A, sign) for sign in signs("abcdefghijklmnopqrstuvwxyz")]
        texts = ["aa", "ab", "at", "au", "bc", "av"]
        for outer, inner in ((2, 19), (19, 2), (10, 11)):
            tree = choice(*rows[:outer - 1], choice(*rows[outer - 1:outer - 1 + inner]))
            self.assert_plainer(tree, choice(*rows[:20]), texts)
        for outer, inner in ((2, 20), (20, 2), (11, 11)):
            tree = choice(*rows[:outer - 1], choice(*rows[outer - 1:outer - 1 + inner]))
            self.assert_plainer(tree, tree, texts)

    def test_room_that_doubles_leave(self):
        rows = [row(A, sign) for sign in signs("abcdefghijklmnopqrstuvwxyz")]
        inner = choice(*rows[:19])
        texts = ["aa", "ab", "as", "at", "bc", "ay"]
        self.assert_plainer(choice(inner, rows[20], rows[20]), choice(*rows[:19], rows[20]), texts)
        self.assert_plainer(choice(A, B, inner), choice(spread_rows("ab"), *rows[:19]), texts)
        self.assert_plainer(choice(*[inner] * 3), inner, texts)
        self.assert_plainer(choice(inner, choice(*rows[:19]), rows[20]), choice(*rows[:19], rows[20]), texts)

    def test_doubles(self):
        ab, ba = row(A, B), row(B, A)
        self.assert_plainer(choice(ab, ba, ab), choice(ab, ba))
        self.assert_plainer(choice(ab, ab), ab)
        self.assert_plainer(choice(ab, choice(ba, ab), ba), choice(ab, ba))
        self.assert_plainer(choice(EMPTY, ab, EMPTY), choice(EMPTY, ab))
        self.assert_plainer(choice(star(A), ("many", star(A), 1, 1, "few")), star(A))
        self.assert_plainer(choice(("edge", "word"), ANY, ("edge", "word")), choice(("edge", "word"), ANY))
        self.assert_plainer(choice(look(A), look(A), look(A, "behind")), choice(look(A), look(A, "behind")))

    def test_doubles_with_groups_stay(self):
        for tree in (
            choice(group(""), group("")), choice(row(A, group("")), B, row(A, group(""))),
            choice(star(group("")), star(group(""))), choice(("flags", "a", "", group("")), ("flags", "a", "", group(""))),
        ):
            self.assert_plainer(tree, tree)
        tree = row(group("", choice(A, EMPTY)), choice(row(B, ("back", 1)), A, row(B, ("back", 1))))
        self.assert_plainer(tree, row(group("", choice(A, EMPTY)), choice(row(B, ("back", 1)), A)))

    def test_doubles_that_only_then_are(self):
        self.assert_plainer(choice(spread_rows("ab"), ANY, A, B), choice(spread_rows("ab"), ANY))
        self.assert_plainer(choice(row(A, B), row(A, EMPTY, B)), row(A, B))
        self.assert_plainer(choice(("once", A), EMPTY, A), choice(A, EMPTY))
        self.assert_plainer(choice(A, row(A, ANY), A, B, C), choice(A, row(A, ANY), spread_rows("bc")))


def spread_rows(text):
    """The set of neighbours in the order of signs."""
    return ("set", ((text[0], text[-1]),), False)


class Neighbours(PlainerCase):
    def test_signs_and_sets(self):
        ab = spread_rows("ab")
        self.assert_plainer(choice(A, B), ab)
        self.assert_plainer(choice(B, A), ab)
        self.assert_plainer(choice(A, C), spread_set("ac"))
        self.assert_plainer(choice(A, B, C), spread_rows("ac"))
        self.assert_plainer(choice(ab, C), spread_rows("ac"))
        self.assert_plainer(choice(ab, ("set", (("c", "c"), ("A", "B")), False)), ("set", (("A", "B"), ("a", "c")), False))
        self.assert_plainer(choice(("sign", "\n"), ("sign", " ")), ("set", (("\n", " "),), False))
        self.assert_plainer(choice(A, ("set", (("a", "a"),), False)), spread_set("a"))

    def test_others_stay(self):
        turned = ("set", (("a", "a"),), True)
        for tree in (choice(A, ANY, B), choice(A, turned), choice(turned, B), choice(turned, ("set", (("b", "b"),), True)),
                     choice(A, EMPTY, B), choice(A, group("", B)), choice(A, ("flags", "a", "", B)), choice(ANY, A),
                     choice(A, row(B, C), B), choice(group(""), A), choice(A, ("edge", "end"), C)):
            self.assert_plainer(tree, tree)
        self.assert_plainer(choice(A, B, ANY, B, C), choice(spread_rows("ab"), ANY, C))

    def test_unsettled_sets_that_stay_alone(self):
        tree = ("set", (("b", "b"), ("a", "a")), False)
        self.assert_plainer(tree, tree)
        self.assert_plainer(choice(tree, EMPTY), choice(tree, EMPTY))

    def test_nine_pairs_and_ten(self):
        apart = "acegikmoqsuwy"
        texts = [sign for sign in "abcdefghijklmnopqrstuvwxyz"]
        self.assert_plainer(choice(*signs(apart[:9])), spread_set(apart[:9]), texts)
        self.assert_plainer(choice(*signs(apart[:10])), choice(spread_set(apart[:9]), ("sign", apart[9])), texts)
        self.assert_plainer(choice(*signs(apart)), choice(spread_set(apart[:9]), spread_set(apart[9:])), texts)
        one, other = spread_set(apart[:5]), spread_set(apart[5:9])
        self.assert_plainer(choice(one, other), spread_set(apart[:9]), texts)
        one, other = spread_set(apart[:5]), spread_set(apart[5:10])
        self.assert_plainer(choice(one, other), choice(one, other), texts)
        nine = spread_set(apart[:9])
        self.assert_plainer(choice(nine, ("sign", "z")), choice(nine, ("sign", "z")), texts)
        self.assert_plainer(choice(nine, ("sign", "b")), ("set", (("a", "c"), *spread_set(apart[2:9])[1]), False), texts)
        self.assert_plainer(choice(nine, ("sign", "a")), nine, texts)

    def test_neighbours_that_only_a_third_one_brings_together(self):
        texts = [sign for sign in "abcdefghijklmnopqrstuvwxyz"]
        one, other, third = spread_set("acegi"), spread_set("kmoqs"), spread_rows("at")
        self.assert_plainer(choice(one, other, third), third, texts)
        self.assert_plainer(choice(one, other, ANY, third), choice(one, other, ANY, third), texts)
        # What stands between goes, as it has stood ahead.
        self.assert_plainer(choice(ANY, A, ANY, B), choice(ANY, spread_rows("ab")), texts)

    def test_within_flags_and_looks(self):
        self.assert_plainer(("flags", "a", "", choice(A, B)), ("flags", "a", "", spread_rows("ab")))
        self.assert_plainer(look(choice(A, B), "nobehind"), look(spread_rows("ab"), "nobehind"))


class OncesAndManys(PlainerCase):
    def test_a_many_of_one_time(self):
        part = row(A, star(B))
        for mood in ("most", "few"):
            self.assert_plainer(("many", part, 1, 1, mood), part)
        self.assert_plainer(("many", part, 1, 1, "once"), ("once", part))
        self.assert_plainer(("many", A, 1, 1, "once"), A)
        self.assert_plainer(("many", ("many", star(A), 1, 1, "once"), 1, 1, "once"), ("once", star(A)))
        self.assert_plainer(("many", group("x", A), 1, 1, "most"), group("x", A))
        self.assert_plainer(nested(30, part, lambda part: ("many", part, 1, 1, "few")), part)
        self.assert_plainer(("many", ("many", A, 1, 1, "most"), 2, 3, "few"), ("many", A, 2, 3, "few"))
        self.assert_plainer(star(("many", A, 1, 1, "few")), star(A))

    def test_other_manys_stay(self):
        for least, most in ((0, 1), (0, None), (1, None), (1, 2), (2, 2), (0, 20)):
            for mood in ("most", "few", "once"):
                tree = ("many", A, least, most, mood)
                self.assert_plainer(tree, tree)

    def test_needless_onces(self):
        for part in (A, ANY, spread_rows("ab"), ("set", (("a", "a"),), True), ("edge", "start"), ("edge", "inner"),
                     look(A), look(star(A), "behind"), look(row(A, B), "noahead"), look(A, "nobehind"),
                     ("once", star(A)), ("many", A, 0, None, "once"), ("many", A, 2, 3, "once")):
            self.assert_plainer(("once", part), part)
            self.assert_plainer(nested(5, part), part)
            self.assert_plainer(("many", part, 1, 1, "once"), part)
        self.assert_plainer(row(group("x"), ("once", ("back", "x"))), row(group("x"), ("back", "x")))

    def test_onces_that_stay(self):
        for part in (EMPTY, row(A, B), choice(row(A, B), A), star(A), ("many", A, 0, 2, "few"), group("", A),
                     ("flags", "a", "", A), ("flags", "l", "", look(A))):
            self.assert_plainer(("once", part), ("once", part))
            self.assert_plainer(("once", ("once", part)), ("once", part))
            self.assert_plainer(("once", ("many", part, 1, 1, "few")), ("once", part))

    def test_onces_that_only_then_are_needless(self):
        self.assert_plainer(("once", choice(A, B)), spread_rows("ab"))
        self.assert_plainer(("once", row(EMPTY, A)), A)
        self.assert_plainer(("once", choice(star(A), star(A))), ("once", star(A)))
        self.assert_plainer(("once", choice(look(A), look(A))), look(A))
        self.assert_plainer(("once", row(("many", ("once", star(A)), 1, 1, "few"), EMPTY)), ("once", star(A)))

    def test_within_one_another(self):
        for text, wanted in (
            ("((a|b){1}|c)(d(e()f))", "[a-c]def"), ("(x:(!(!a*)))", "(x:(!a*))"), ("(#a:(a|(b|c)))", "(#a:[a-c])"),
            ("(>((ab)|(ab)))", "(>ab)"), ("(!((a{1}){1}!){1}~)", "a"), ("((a|a)*|(a|a)*)b{1}", "a*b"),
            ("(<~(a|(|b)|))", "(<~a||b)"), ("(x:a|a)(y:(&x;|&x;))", "(x:a)(y:&x;)"), ("(:a)|(:a)", "(:a)|(:a)"),
            ("(!(>a|b))", "(>[a-b])"), ("((((((a))))))", "a"), ("a(b(c(d)))e", "abcde"), ("(!(!(!ab)))", "(!ab)"),
            ("((:a)(:b))((:c)d)", "(:a)(:b)(:c)d"), ("((ab){1}!){1}!|c", "(!ab)|c"), ("(a|b|)(b|a|)", "([a-b]|)([a-b]|)"),
        ):
            self.assert_written(text, wanted)


class HandedIn(PlainerCase):
    def test_asked_again_in_any_order(self):
        trees = tangled_trees(rng(354), 60)
        before = [plainer(tree) for tree in trees]
        for tree, told in reversed(list(zip(trees, before))):
            with self.assertRaises(Bad):
                plainer(row(tree, ("back", 9)))
            self.assertEqual(plainer(tree), told)

    def test_it_is_a_tree_of_tuples(self):
        for tree in tangled_trees(rng(355), 40):
            hash(plainer(tree))


if __name__ == "__main__":
    unittest.main()
