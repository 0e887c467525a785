"""Promises 12 and 14: the first fault of whatever is handed in."""

import copy
import unittest

from atomglass.faults import fault
from atomglass.trees import idle
from tests.some_trees import A, ANY, B, EMPTY, SINGLES, WHOLE, choice, drawn, group, look, nested, parts, row, star
from tests.things import SMALL, Odd, no_strings, rng

EDGE = ("edge", "word")
WORDS = ["sign", "any", "set", "row", "choice", "many", "group", "once", "look", "flags", "back", "edge"]


def with_thing(tree, at, thing):
    return tree[:at] + (thing,) + tree[at + 1:]


def laid(tree):
    """The code of a tree, laid row by row with its words alone; only for trees that aren't too long."""
    word = tree[0]
    codes = [laid(part) for part in parts(tree)]
    if word in ("sign", "any", "set"):
        return ["read"]
    if word in ("back", "edge"):
        return [word]
    if word == "choice":
        return sum([["fork", *code, "go"] for code in codes[:-1]], []) + codes[-1]
    if word == "many":
        least, most, mood = tree[2:]
        code = codes[0] * least
        code += ["fork", *codes[0], "go"] if most is None else ["fork", *codes[0]] * (most - least)
        return ["once", *code, "kept"] if mood == "once" else code
    if word == "group":
        return ["open", *codes[0], "close"]
    if word in ("once", "look"):
        return [word, *codes[0], "kept"]
    return sum(codes, [])


def later_fault(tree):
    """What is due where the form is right, told by looking at all trees, one fault's word after another."""
    found, groups = [], []

    def go(part, path, in_look):
        if part[0] == "group":
            if part[1] and part[1] in [name for name, _ in groups]:
                found.append((path, 0, "twice"))
            groups.append((part[1], path))
            if len(groups) > 9:
                found.append((path, 1, "groups"))
            if in_look:
                found.append((path, 2, "inner"))
        if part[0] == "many" and part[3] is None and idle(part[1]):
            found.append((path, 4, "empty"))
        if part[0] == "back":
            found.append((path, 3, part[1]))
        for number, inner in enumerate(parts(part)):
            go(inner, path + (number,), in_look or part[0] == "look")

    go(tree, (), False)
    for path, order, word in sorted(found, key=lambda row: (row[0], row[1])):
        if order != 3:
            return (word, path)
        known = [name for name, _ in groups] if isinstance(word, str) else range(1, len(groups) + 1)
        if word not in known:
            return ("back", path)
    return ("long", ()) if len(laid(tree)) + 1 > 300 else None


class Form(unittest.TestCase):
    def assert_form(self, thing, path=()):
        self.assertEqual(fault(thing), ("form", path), thing)

    def assert_right(self, tree):
        self.assertIsNone(fault(tree), tree)

    def test_trees_without_a_fault(self):
        for tree in SINGLES:
            self.assert_right(tree)
        self.assert_right(WHOLE)

    def test_whatever_is_handed_in(self):
        for thing in no_strings() + ["", "a", "sign", "any", ["any"], ("a", "b", "c")]:
            self.assert_form(thing)
            self.assert_form(row(A, thing), (1,))
            self.assert_form(choice(row(A, B), ("once", thing)), (1, 0))

    def test_words(self):
        for word in no_strings() + ["", "Sign", "signs", "sign ", "a", ["sign"], ("sign",), {"sign": 1}, b"sign"]:
            for many in range(5):
                self.assert_form((word, *["a"] * many))
        for word in WORDS:
            self.assert_form([word])
            if word != "any":
                self.assert_form((word,))

    def test_one_thing_more_or_less(self):
        for tree in SINGLES + [("back", 1)]:
            for more in (None, "", A, 0):
                self.assert_form(tree + (more,))
            self.assert_form(tree[:-1])
            self.assert_form(list(tree))

    def test_each_thing_put_otherwise(self):
        things = no_strings() + ["", "aa", "la", "start ", "most ", "any"]
        many = ("many", A, 0, 5, "few")
        for tree, at in ((A, 1), (("set", (("a", "b"),), True), 1), (look(A), 1), (EDGE, 1), (many, 4)):
            for thing in things:
                self.assert_form(with_thing(tree, at, thing))
        for thing in things:
            if not isinstance(thing, bool):
                self.assert_form(with_thing(("set", (("a", "b"),), True), 2, thing))
            if not isinstance(thing, tuple):
                self.assert_form(("row", thing))
                self.assert_form(("choice", thing))

    def test_signs(self):
        for thing in ("", "ab", "\t", "\r", "\x7f", " \n", 1, True, None, ["a"], ("a",)):
            self.assert_form(("sign", thing))
        for sign in ("\n", " ", "~", "$", "&"):
            self.assert_right(("sign", sign))

    def test_sets(self):
        for many in range(12):
            tree = ("set", (("a", "c"),) * many, False)
            (self.assert_right if 1 <= many <= 9 else self.assert_form)(tree)
        for pair in (("b", "a"), (" ", "\n"), ("&", "$"), ("a",), ("a", "b", "c"), (), ["a", "b"], "ab", ("a", None),
                     ("", "a"), ("a", ""), ("ab", "c"), ("a", "\t"), (1, 2), None, {"a": "b"}, (["a"], "b")):
            self.assert_form(("set", (pair,), False))
            self.assert_form(("set", (("a", "b"), pair), False))
        for pairs in ([("a", "b")], "ab", None, {("a", "b"): 1}, ("a", "b")):
            self.assert_form(("set", pairs, False))
        for others in (0, 1, None, "", "True", [], Odd()):
            self.assert_form(("set", (("a", "b"),), others))
        for pair in (("a", "a"), ("\n", " "), ("$", "&"), ("\n", "~")):
            self.assert_right(("set", (pair, ("a", "b"), ("a", "z")), True))

    def test_rows_and_choices(self):
        for many in (0, 1, 2, 3, 20, 21, 99, 100, 101, 102):
            tree = row(*[A] * many)
            (self.assert_form if many in (1, 101, 102) else self.assert_right)(tree)
            tree = choice(*[A] * many)
            (self.assert_right if 2 <= many <= 20 else self.assert_form)(tree)
        for given in ([A, B], [], {}, None, "ab", A + B, 2):
            for word in ("row", "choice"):
                self.assertEqual(fault((word, given))[0], "form")
        self.assert_form(("row", [A, B]))
        self.assert_form(("choice", [A, B]))

    def test_manys(self):
        counts = [-1, 0, 1, 2, 19, 20, 21, 400]
        for least in counts:
            for most in [None, *counts]:
                right = 0 <= least <= 20 and (most is None or 1 <= most <= 20 and least <= most)
                for mood in ("most", "few", "once"):
                    (self.assert_right if right else self.assert_form)(("many", A, least, most, mood))
        for thing in (True, False, None, "1", "", [], (1,), {}, Odd(), b"1"):
            self.assert_form(("many", A, thing, 5, "most"))
            if thing is not None:
                self.assert_form(("many", A, 0, thing, "most"))
            self.assert_form(("many", A, 0, 5, thing))
        for mood in ("", "Most", "mos", "more", "ahead"):
            self.assert_form(("many", A, 0, 5, mood))
        for thing in (None, 0, "a", [], (), ("sign",)):
            self.assert_form(("many", thing, 0, 5, "most"), (0,))

    def test_groups_and_backs_by_their_names(self):
        for many in range(11):
            name = SMALL[:many]
            (self.assert_right if many <= 8 else self.assert_form)(group(name))
            if 1 <= many <= 8:
                self.assert_right(row(group(name), ("back", name)))
            else:
                self.assert_form(row(group(""), ("back", name)), (1,))
        for name in ("A", "a1", "a b", "a_", "\n", " ", "1", None, 0, 1, True, [], ["a"], (), ("a",), {}, Odd()):
            self.assert_form(group(name))
        for which in ("A", "a1", " ", "1", None, True, False, [], [1], (), (1,), {}, -1, 0, 10, 11, Odd()):
            self.assert_form(row(*[group("")] * 9, ("back", which)), (9,))
        for which in range(1, 10):
            self.assert_right(row(*[group("")] * 9, ("back", which)))

    def test_looks_onces_and_edges(self):
        for way in ("", "Ahead", "noahea", "back", "no", None, 0, [], {}, ("ahead",), Odd()):
            self.assert_form(look(A, way))
            self.assert_form(("edge", way))
        for kind in ("Start", "row", "words", "inner "):
            self.assert_form(("edge", kind))
        for thing in (None, "a", [], ("sign", ""), {}):
            self.assert_form(("once", thing), (0,))
            self.assert_form(look(thing), (0,))
            self.assert_form(group("", thing), (0,))
            self.assert_form(("flags", "a", "", thing), (0,))

    def test_flags(self):
        letters = ["", "a", "l", "al", "la", "aa", "A", "x", "b", None, True, [], ("a",), ["a"], {}, 0, Odd()]
        right = {("a", ""), ("l", ""), ("al", ""), ("", "a"), ("", "l"), ("", "al"), ("a", "l"), ("l", "a")}
        for on in letters:
            for off in letters:
                told = type(on) is str and type(off) is str and (on, off) in right
                (self.assert_right if told else self.assert_form)(("flags", on, off, A))

    def test_the_first_in_order(self):
        wrong = ("sign", "")
        self.assert_form(row(row(A, wrong), wrong), (0, 1))
        self.assert_form(row(A, choice(B, ("once", None)), wrong), (1, 1, 0))
        self.assert_form(("many", wrong, 0, 0, "most"))
        self.assert_form(("group", "A", wrong))
        self.assert_form(look(wrong, "away"))
        self.assert_form(("flags", "", "", wrong))
        self.assert_form(("set", (), False))

    def test_paths_lead_to_the_part(self):
        chance = rng(12)
        for _ in range(300):
            tree = drawn(chance, 4)
            path, part = [], tree
            while parts(part) and chance.random() < 0.8:
                number = chance.randrange(len(parts(part)))
                path.append(number)
                part = parts(part)[number]
            for thing in (None, ["any"], ("any", 1), ("edge", "x")):
                self.assert_form(replaced(tree, path, thing), tuple(path))


def replaced(tree, path, thing):
    if not path:
        return thing
    inner = replaced(parts(tree)[path[0]], path[1:], thing)
    if tree[0] in ("row", "choice"):
        return (tree[0], with_thing(tree[1], path[0], inner))
    return with_thing(tree, {"many": 1, "group": 2, "once": 1, "look": 2, "flags": 3}[tree[0]], inner)


class Deep(unittest.TestCase):
    def test_thirty_nine_and_forty(self):
        for wrap in (lambda part: ("once", part), lambda part: group("", part), lambda part: ("flags", "a", "", part)):
            self.assertNotIn(fault(nested(39, A, wrap)) or ("",), [("deep", (0,) * 39), ("form", (0,) * 39)])
            self.assertEqual(fault(nested(40, A, wrap)), ("deep", (0,) * 40))
            self.assertEqual(fault(nested(60, A, wrap)), ("deep", (0,) * 40))
        self.assertIsNone(fault(nested(39)))

    def test_in_rows_and_choices(self):
        self.assertEqual(fault(nested(40, A, lambda part: row(B, part))), ("deep", (1,) * 39 + (0,)))
        self.assertEqual(fault(nested(40, A, lambda part: choice(part, B))), ("deep", (0,) * 40))
        self.assertIsNone(fault(nested(39, A, lambda part: row(part, B))))

    def test_a_much_deep(self):
        self.assertEqual(fault(nested(99)), ("deep", (0,) * 40))

    def test_ahead_of_form_there(self):
        for thing in (None, 0, "a", [], (), ("sign",), ("many", A, 21, 3, "most")):
            self.assertEqual(fault(nested(40, thing)), ("deep", (0,) * 40))
            self.assertEqual(fault(nested(39, thing)), ("form", (0,) * 39))

    def test_in_order_with_a_form_elsewhere(self):
        deep, form = nested(39), ("sign", "")
        self.assertEqual(fault(row(deep, form)), ("deep", (0,) * 40))
        self.assertEqual(fault(row(form, deep)), ("form", (0,)))
        self.assertEqual(fault(row(A, deep, form)), ("deep", (1,) + (0,) * 39))
        self.assertEqual(fault(nested(41, form)), ("deep", (0,) * 40))

    def test_the_empty_row_has_no_parts_that_are_deep(self):
        self.assertIsNone(fault(nested(39, EMPTY)))
        self.assertIsNone(fault(nested(39, ("set", (("a", "b"),), False))))


class Meaning(unittest.TestCase):
    def test_twice(self):
        self.assertEqual(fault(row(group("a"), group("a"))), ("twice", (1,)))
        self.assertEqual(fault(group("a", group("a"))), ("twice", (0,)))
        self.assertEqual(fault(choice(group("a"), row(B, group("b"), group("a")))), ("twice", (1, 2)))
        self.assertIsNone(fault(row(group(""), group(""), group("a"), group("b"))))

    def test_groups(self):
        self.assertIsNone(fault(row(*[group("")] * 9)))
        self.assertEqual(fault(row(*[group("")] * 10)), ("groups", (9,)))
        self.assertEqual(fault(row(*[group("")] * 12)), ("groups", (9,)))
        self.assertIsNone(fault(nested(9, A, lambda part: group("", part))))
        self.assertEqual(fault(nested(10, A, lambda part: group("", part))), ("groups", (0,) * 9))
        self.assertEqual(fault(row(*[group(name) for name in SMALL[:10]])), ("groups", (9,)))

    def test_inner(self):
        for way in ("ahead", "behind", "noahead", "nobehind"):
            self.assertEqual(fault(look(group(""), way)), ("inner", (0,)))
            self.assertEqual(fault(look(row(A, ("once", star(group("x")))), way)), ("inner", (0, 1, 0, 0)))
        self.assertIsNone(fault(row(group("", look(A)), group("x"))))
        self.assertEqual(fault(row(look(A), group("x"), look(group("y")))), ("inner", (2, 0)))

    def test_back(self):
        self.assertEqual(fault(("back", 1)), ("back", ()))
        self.assertEqual(fault(("back", "a")), ("back", ()))
        self.assertIsNone(fault(row(("back", 1), group("a"))))
        self.assertIsNone(fault(row(("back", "a"), group("a"))))
        self.assertIsNone(fault(group("a", row(A, ("back", "a")))))
        self.assertEqual(fault(row(group("a"), ("back", 2))), ("back", (1,)))
        self.assertEqual(fault(row(group(""), ("back", "a"))), ("back", (1,)))
        self.assertEqual(fault(row(group("ab"), ("back", "a"))), ("back", (1,)))
        self.assertIsNone(fault(row(("back", 2), group("a"), group("b"))))
        self.assertIsNone(fault(row(group("a"), look(("back", "a")))))

    def test_empty(self):
        for part in (EMPTY, EDGE, look(A), star(A), ("many", A, 0, 3, "few"), choice(A, EMPTY), row(EDGE, EMPTY)):
            for mood in ("most", "few", "once"):
                for least in (0, 1, 20):
                    self.assertEqual(fault(("many", part, least, None, mood)), ("empty", ()))
                self.assertIsNone(fault(("many", part, 0, 3, mood)))
        self.assertIsNone(fault(star(row(A, EDGE))))
        self.assertIsNone(fault(star(choice(A, B))))
        self.assertEqual(fault(row(group("a"), star(("back", "a")))), ("empty", (1,)))
        self.assertEqual(fault(row(A, star(star(A)))), ("empty", (1,)))

    def test_two_at_one_tree_in_the_told_order(self):
        nine = [group(name) for name in SMALL[:9]]
        self.assertEqual(fault(row(*nine, group("a"))), ("twice", (9,)))
        self.assertEqual(fault(row(*nine, look(group("a")))), ("twice", (9, 0)))
        self.assertEqual(fault(row(*nine, look(group("z")))), ("groups", (9, 0)))
        self.assertEqual(fault(row(group("a"), look(group("a")))), ("twice", (1, 0)))

    def test_two_at_two_trees_in_the_order_of_going_through(self):
        wrong = {
            "twice": group("a"), "inner": look(group("")), "back": ("back", "zz"), "empty": star(EDGE),
        }
        for one in wrong:
            for other in wrong:
                told = fault(row(group("a"), wrong[one], wrong[other]))
                self.assertEqual((told[0], told[1][0]), (one, 1))
        self.assertEqual(fault(row(*[group("")] * 9, star(EDGE), group(""))), ("empty", (9,)))
        self.assertEqual(fault(row(*[group("")] * 10, star(EDGE))), ("groups", (9,)))
        self.assertEqual(fault(star(row(EDGE, ("back", 3)))), ("empty", ()))
        self.assertEqual(fault(star(row(A, star(("back", 3))))), ("empty", (0, 1)))
        self.assertEqual(fault(group("a", row(("back", 3), group("a")))), ("back", (0, 0)))

    def test_form_and_deep_go_ahead_of_all_of_these(self):
        for wrong in (row(group("a"), group("a")), look(group("")), ("back", 1), star(EDGE), row(*[group("")] * 10)):
            self.assertEqual(fault(row(wrong, ("sign", ""))), ("form", (1,)))
            self.assertEqual(fault(row(wrong, nested(39))), ("deep", (1,) + (0,) * 39))

    def test_all_of_it_by_chance(self):
        chance = rng(15)
        seen = {}
        for _ in range(2500):
            tree = drawn(chance, 4)
            if most_rows(tree) <= 20000:
                told = later_fault(tree)
                self.assertEqual(fault(tree), told, tree)
                word = told and told[0]
                seen[word] = seen.get(word, 0) + 1
        for word in (None, "twice", "inner", "back", "empty", "long"):
            self.assertGreaterEqual(seen.get(word, 0), 10, seen)


def most_rows(tree):
    """A bound on how many rows there are, so that no code is laid that is too long."""
    inner = sum(most_rows(part) for part in parts(tree)) + 2 * len(parts(tree)) + 2
    return inner * (max(tree[2], tree[3] or 0) + 1) if tree[0] == "many" else inner


class Long(unittest.TestCase):
    def assert_edge(self, tree, rows):
        """The tree's code has so many rows with done, and is told long just above 300."""
        self.assertEqual(len(laid(tree)) + 1, rows)
        self.assertEqual(fault(tree), ("long", ()) if rows > 300 else None, rows)

    def padded(self, tree, rows):
        """A tree with signs behind it, so that its code has just so many rows."""
        more = rows - 1 - len(laid(tree))
        self.assertTrue(2 <= more <= 180)
        half = more // 2
        return row(tree, *[A] * half, row(*[A] * (more - half)))

    def test_rows(self):
        for rows in (299, 300, 301, 302):
            self.assert_edge(row(row(*[A] * 99), row(*[A] * 99), row(*[B] * 90), row(*[B] * (rows - 289))), rows)

    def test_each_word(self):
        much = row(*[("many", A, 20, 20, "most")] * 5, row(*[B] * 50))
        for tree in (
            choice(much, A), choice(A, much, EMPTY),
            ("many", much, 1, 1, "most"), ("many", much, 0, 1, "most"), ("many", much, 1, 1, "once"),
            ("many", much, 0, None, "few"), ("many", much, 0, None, "once"),
            group("", much), ("once", much), look(much), look(much, "nobehind"),
            ("flags", "a", "", much),
            row(much, group("x"), ("back", 1), EDGE, ANY, ("set", (("a", "b"),), True), EMPTY),
            row(much, star(A), ("many", A, 2, None, "few"), ("many", B, 2, 5, "once")),
            row(much, ("many", EMPTY, 3, 4, "most")),
        ):
            for rows in (299, 300, 301, 302):
                self.assert_edge(self.padded(tree, rows), rows)

    def test_manys_within_manys(self):
        for tree, rows in (
            (("many", row(*[A] * 13), 20, 20, "most"), 261),
            (("many", ("many", A, 14, 14, "most"), 20, 20, "most"), 281),
            (("many", ("many", A, 15, 15, "most"), 20, 20, "most"), 301),
            (("many", ("many", A, 0, 7, "few"), 20, 20, "most"), 281),
            (("many", ("many", A, 0, 6, "once"), 0, 20, "most"), 301),
            (("many", ("many", A, 3, 17, "most"), 9, 9, "once"), 282),
            (("many", row(A, star(A)), 19, None, "most"), 83),
        ):
            self.assert_edge(tree, rows)

    def test_behind_all_else(self):
        much = nested(3, A, lambda part: ("many", part, 20, 20, "most"))
        self.assertEqual(fault(much), ("long", ()))
        self.assertEqual(fault(row(much, star(EDGE))), ("empty", (1,)))
        self.assertEqual(fault(row(much, ("back", 1))), ("back", (1,)))
        self.assertEqual(fault(row(much, look(group("")))), ("inner", (1, 0)))
        self.assertEqual(fault(row(much, group("a"), group("a"))), ("twice", (2,)))
        self.assertEqual(fault(row(much, ("sign", ""))), ("form", (1,)))
        self.assertEqual(fault(row(much, nested(39))), ("deep", (1,) + (0,) * 39))
        self.assertEqual(fault(group("a", much)), ("long", ()))

    def test_many_levels_deep_answered_at_once(self):
        for levels in (4, 20, 39):
            self.assertEqual(fault(nested(levels, A, lambda part: ("many", part, 20, 20, "most"))), ("long", ()))
            self.assertEqual(fault(nested(levels, A, lambda part: ("many", part, 0, 20, "once"))), ("long", ()))
            self.assertIsNone(fault(nested(levels, EMPTY, lambda part: ("many", part, 20, 20, "most"))))


class NothingIsChanged(unittest.TestCase):
    def test_trees_stay_and_answers_stay(self):
        handed = [WHOLE, *SINGLES, ["row", []], ("row", [A]), row(A, ["x"]), {}, star(EDGE), nested(45)]
        before = copy.deepcopy(handed)
        first = [fault(thing) for thing in handed]
        again = [fault(thing) for thing in reversed(handed)]
        self.assertEqual(first, again[::-1])
        self.assertEqual(handed, before)

    def test_the_very_same_part_at_two_places(self):
        part = group("a", B)
        self.assertEqual(fault(row(part, part)), ("twice", (1,)))
        wrong = ("sign", "")
        self.assertEqual(fault(row(wrong, wrong)), ("form", (0,)))
        deep = nested(20)
        self.assertEqual(fault(row(deep, nested(20, deep))), ("deep", (1,) + (0,) * 39))


if __name__ == "__main__":
    unittest.main()
