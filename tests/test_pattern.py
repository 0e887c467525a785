"""Promise 25 as far as it speaks of Pattern (and 3 and 4 for it)."""

import copy
import unittest

from atomglass.codes import code_of
from atomglass.errors import Bad, GlassError
from atomglass.faults import fault
from atomglass.pattern import Pattern
from atomglass.reader import read_pattern
from atomglass.trees import group_names
from tests.some_trees import A, B, EMPTY, SINGLES, WHOLE, choice, drawn, group, look, nested, row, star
from tests.things import no_strings, rng

EDGE = ("edge", "word")

# For each word of promise 14 trees that have this fault, and where.
FAULTY = [
    (("sign", "ab"), "form", ()), (row(A, ("row", (B,))), "form", (1,)), (row(A, B, None), "form", (2,)),
    (("set", (("b", "a"),), False), "form", ()), (("many", A, 3, 2, "most"), "form", ()),
    (("many", A, True, 2, "most"), "form", ()), (("flags", "a", "a", A), "form", ()), (["sign", "a"], "form", ()),
    (nested(40), "deep", (0,) * 40), (nested(60), "deep", (0,) * 40),
    (row(group("a"), choice(A, group("a"))), "twice", (1, 1)), (group("x", group("x")), "twice", (0,)),
    (row(*[group("")] * 10), "groups", (9,)),
    (look(row(A, group(""))), "inner", (0, 1)), (look(group("q"), "nobehind"), "inner", (0,)),
    (("back", 1), "back", ()), (row(group("x"), ("back", "y")), "back", (1,)), (row(group("x"), ("back", 2)), "back", (1,)),
    (star(EDGE), "empty", ()), (row(A, star(star(A))), "empty", (1,)), (star(EMPTY), "empty", ()),
    (nested(3, A, lambda part: ("many", part, 20, 20, "most")), "long", ()),
    (("many", row(*[A] * 15), 20, 20, "most"), "long", ()),
]


def whatever():
    """Things of all kinds that are no trees."""
    return no_strings() + [
        "", "a", "sign", "any", ["any"], [A, B], {"sign": "a"}, ("sign",), ("sign", "a", "b"), ("row",), (A, B),
        ("any", None), (None,), (1, 2), ((),), ("row", [A, B]), ("row", (A, [])), ("choice", (A, {})), (("any",),),
        ("many", A, 0, None), ("many", A, "0", None, "most"), ("edge", None), ("back", 0), ("back", True),
    ]


class Refused(unittest.TestCase):
    def refusal(self, thing):
        with self.assertRaises(Bad) as caught:
            Pattern(thing)
        self.assertIsInstance(caught.exception, GlassError)
        return (caught.exception.word, caught.exception.path)

    def test_each_fault(self):
        for tree, word, path in FAULTY:
            self.assertEqual(self.refusal(tree), (word, path), tree)

    def test_every_word_of_a_fault_is_among_these(self):
        words = {word for tree, word, path in FAULTY}
        self.assertEqual(words, {"form", "deep", "twice", "groups", "inner", "back", "empty", "long"})

    def test_whatever_is_handed_in(self):
        for thing in whatever():
            self.assertEqual(self.refusal(thing)[0], "form")
            self.assertEqual(self.refusal(thing), fault(thing))

    def test_twice_alike_and_good_ones_behind_it(self):
        for tree, word, path in FAULTY:
            self.assertEqual(self.refusal(tree), self.refusal(tree))
            self.assertEqual(Pattern(WHOLE).code(), code_of(WHOLE))
            self.assertEqual(Pattern(A).code(), [("read", (("a", "a"),)), ("done",)])

    def test_trees_by_chance(self):
        chance = rng(25)
        refused = 0
        for _ in range(1500):
            tree = drawn(chance, 4)
            found = fault(tree)
            if found is None:
                self.assertEqual(Pattern(tree).code(), code_of(tree))
            else:
                self.assertEqual(self.refusal(tree), found)
                refused += 1
        self.assertTrue(200 < refused < 1300, refused)

    def test_what_is_refused_stays_as_it_was(self):
        for thing in (["row", [A]], ("row", [A, B]), {"a": [1]}, [[]]):
            before = copy.deepcopy(thing)
            self.refusal(thing)
            self.assertEqual(thing, before)


class Fields(unittest.TestCase):
    def test_tree_and_groups(self):
        for tree in [*SINGLES, WHOLE, EMPTY]:
            pattern = Pattern(tree)
            self.assertEqual(pattern.tree, tree)
            self.assertEqual(pattern.groups, len(group_names(tree)))
            self.assertIs(type(pattern.groups), int)
        self.assertEqual(Pattern(A).groups, 0)
        self.assertEqual(Pattern(row(*[group("")] * 9)).groups, 9)
        self.assertEqual(Pattern(("many", group("", group("x")), 3, 3, "most")).groups, 2)

    def test_names(self):
        self.assertEqual(Pattern(A).names(), [])
        self.assertEqual(Pattern(group("")).names(), [""])
        self.assertEqual(Pattern(row(group("year"), group(""), group("a", group("b")))).names(), ["year", "", "a", "b"])
        self.assertEqual(Pattern(WHOLE).names(), ["year", ""])
        self.assertEqual(Pattern(row(("back", "z"), choice(star(group("y")), group("z")))).names(), ["y", "z"])

    def test_code(self):
        for tree in [*SINGLES, WHOLE]:
            self.assertEqual(Pattern(tree).code(), code_of(tree))
            self.assertIsInstance(Pattern(tree).code(), list)

    def test_of_what_was_read(self):
        pattern = Pattern(read_pattern("(y:[0-9]{2})-(:.)"))
        self.assertEqual((pattern.groups, pattern.names()), (2, ["y", ""]))


class NothingIsChanged(unittest.TestCase):
    def test_each_list_is_a_new_one(self):
        pattern = Pattern(WHOLE)
        code, names = pattern.code(), pattern.names()
        pattern.code().clear()
        pattern.names().append("more")
        self.assertIsNot(pattern.code(), pattern.code())
        self.assertIsNot(pattern.names(), pattern.names())
        self.assertEqual((pattern.code(), pattern.names()), (code, names))
        code[0] = names[0] = None
        self.assertEqual((pattern.code(), pattern.names()), (code_of(WHOLE), group_names(WHOLE)))

    def test_the_tree_stays(self):
        tree = copy.deepcopy(WHOLE)
        pattern = Pattern(tree)
        pattern.code(), pattern.names()
        self.assertEqual(tree, WHOLE)
        self.assertEqual(pattern.tree, WHOLE)

    def test_asked_again_with_others_in_between(self):
        trees = [WHOLE, *SINGLES]
        patterns = [Pattern(tree) for tree in trees]
        for pattern, tree in zip(patterns, trees):
            other = Pattern(tree)
            pattern.code().append("x")
            with self.assertRaises(Bad):
                Pattern(star(tree) if tree[0] == "edge" else None)
            self.assertEqual((pattern.code(), pattern.names()), (other.code(), other.names()))
        for pattern, tree in zip(reversed(patterns), reversed(trees)):
            self.assertEqual((pattern.code(), pattern.names(), pattern.tree), (code_of(tree), group_names(tree), tree))


if __name__ == "__main__":
    unittest.main()
