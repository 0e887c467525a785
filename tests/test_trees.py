"""Promise 13: the names of groups, and idle trees."""

import copy
import unittest

from atomglass.trees import group_names, idle
from tests.some_trees import A, ANY, B, EMPTY, SINGLES, WHOLE, choice, drawn, group, look, nested, parts, row, star
from tests.things import rng

EDGE = ("edge", "word")


def least_signs(tree):
    """How few signs a tree takes by its form; what looks or leads back counts as none."""
    word = tree[0]
    if word in ("sign", "any", "set"):
        return 1
    if word in ("look", "back", "edge"):
        return 0
    inner = [least_signs(part) for part in parts(tree)]
    if word == "choice":
        return min(inner)
    return sum(inner) * (tree[2] if word == "many" else 1)


def names_of(tree):
    """The names of groups, found on a pile of trees that wait."""
    names, pile = [], [tree]
    while pile:
        tree = pile.pop()
        if tree[0] == "group":
            names.append(tree[1])
        pile.extend(reversed(parts(tree)))
    return names


class GroupNames(unittest.TestCase):
    def test_in_the_order_of_going_through(self):
        tree = row(group("b", row(group("a"), choice(group(""), group("c")))), star(group("d")))
        self.assertEqual(group_names(tree), ["b", "a", "", "c", "d"])

    def test_within_every_word(self):
        for wrapped in (
            group("x", group("y")), group("", group("")), ("once", group("y")), look(group("y")),
            ("flags", "a", "", group("y")), ("many", group("y"), 0, None, "few"),
            row(A, group("y")), choice(A, group("y")),
        ):
            self.assertEqual(group_names(wrapped), names_of(wrapped), wrapped)
            self.assertTrue(group_names(wrapped))

    def test_of_trees_without_groups(self):
        for tree in SINGLES:
            self.assertEqual(group_names(tree), [tree[1]] if tree[0] == "group" else [], tree)

    def test_faults_other_than_form_and_deep_are_no_matter(self):
        self.assertEqual(group_names(row(*[group("a")] * 12)), ["a"] * 12)
        self.assertEqual(group_names(look(group("q"))), ["q"])

    def test_of_trees_by_chance(self):
        chance = rng(13)
        for _ in range(300):
            tree = drawn(chance, 5)
            self.assertEqual(group_names(tree), names_of(tree), tree)

    def test_deep(self):
        self.assertEqual(group_names(nested(39, group("z"))), ["z"])

    def test_each_list_is_a_new_one(self):
        told = group_names(WHOLE)
        self.assertEqual(told, ["year", ""])
        told.append("more")
        self.assertEqual(group_names(WHOLE), ["year", ""])

    def test_the_very_same_part_twice_is_two(self):
        part = group("a")
        self.assertEqual(group_names(row(part, part)), ["a", "a"])


class Idle(unittest.TestCase):
    def test_of_every_word(self):
        for tree in (A, ANY, ("set", (("a", "a"),), True)):
            self.assertIs(idle(tree), False, tree)
        for tree in (EDGE, ("back", 1), ("back", "x"), look(A), look(A, "nobehind"), EMPTY):
            self.assertIs(idle(tree), True, tree)
        for wrap in (lambda part: group("g", part), lambda part: ("once", part), lambda part: ("flags", "a", "", part)):
            self.assertIs(idle(wrap(A)), False)
            self.assertIs(idle(wrap(EDGE)), True)

    def test_rows_with_one_part_that_decides(self):
        for at in range(3):
            self.assertIs(idle(row(*[A if k == at else EDGE for k in range(3)])), False)
            self.assertIs(idle(choice(*[EDGE if k == at else A for k in range(3)])), True)
        self.assertIs(idle(row(EDGE, EDGE)), True)
        self.assertIs(idle(choice(A, B)), False)

    def test_manys(self):
        for mood in ("most", "few", "once"):
            self.assertIs(idle(("many", A, 0, 1, mood)), True)
            self.assertIs(idle(("many", A, 1, None, mood)), False)
            self.assertIs(idle(("many", EDGE, 1, None, mood)), True)
            self.assertIs(idle(("many", EDGE, 0, 2, mood)), True)
            self.assertIs(idle(("many", ("many", A, 0, None, mood), 20, 20, mood)), True)

    def test_of_trees_by_chance(self):
        chance = rng(14)
        seen = []
        for _ in range(600):
            tree = drawn(chance, 4)
            self.assertIs(idle(tree), least_signs(tree) == 0, tree)
            seen.append(idle(tree))
        self.assertGreater(min(seen.count(True), seen.count(False)), 100)

    def test_deep(self):
        self.assertIs(idle(nested(39)), False)
        self.assertIs(idle(nested(39, EDGE)), True)

    def test_nothing_is_changed(self):
        handed = copy.deepcopy(WHOLE)
        first = (idle(WHOLE), group_names(WHOLE), idle(A))
        self.assertEqual((idle(WHOLE), group_names(WHOLE), idle(A)), first)
        self.assertEqual(WHOLE, handed)


if __name__ == "__main__":
    unittest.main()
