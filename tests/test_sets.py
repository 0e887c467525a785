"""Promises 10 and 11 (and 3 for them): rows of signs."""

import copy
import unittest

from atomglass.sets import common, first_held, holds, joined, marks, settled, signs_held, turned, with_twins
from tests.things import GREAT, ORDER, SMALL, rng

ALL = (("\n", "~"),)


def held_by(rows):
    """All signs that rows hold, in their order, one sign looked at after another."""
    spans = [(ORDER.index(low), ORDER.index(high)) for low, high in rows]
    return "".join(sign for at, sign in enumerate(ORDER) if any(low <= at <= high for low, high in spans))


def twin_of(sign):
    if sign in SMALL:
        return GREAT[SMALL.index(sign)]
    if sign in GREAT:
        return SMALL[GREAT.index(sign)]
    return sign


def any_rows(chance, many):
    pairs = []
    for _ in range(many):
        low = chance.randrange(95)
        high = min(94, low + chance.choice([0, 0, 1, 2, 5, 20, 94]))
        pairs.append((ORDER[low], ORDER[high]))
    return tuple(pairs)


def samples():
    chance = rng(10)
    rows = [
        (), ALL, (("a", "a"),), (("\n", "\n"),), (("~", "~"),), (("\n", "\n"), (" ", " ")), (("$", "$"), ("&", "&")),
        (("&", "&"), ("$", "$")), (("a", "c"), ("d", "f")), (("d", "f"), ("a", "c")), (("a", "c"), ("e", "f")),
        (("a", "z"), ("c", "d")), (("c", "d"), ("a", "z")), (("a", "m"), ("g", "z")), (("a", "a"), ("a", "a")),
        (("a", "d"), ("b", "b"), ("d", "e")), (("A", "Z"), ("a", "z")), (("@", "["),), (("`", "{"),),
        (("Z", "["), ("`", "a")), tuple((sign, sign) for sign in ORDER), tuple((sign, sign) for sign in ORDER[::-1]),
        tuple((sign, sign) for sign in ORDER[::2]), tuple((sign, sign) for sign in ORDER[93::-2]),
        tuple((sign, "~") for sign in ORDER), (("#", "$"), ("&", "'")), (("#", "#"), ("&", "'")),
    ]
    for many in (1, 2, 3, 5, 9, 20, 60, 95):
        rows.extend(any_rows(chance, many) for _ in range(12))
    return rows


SAMPLES = samples()
SHORT = SAMPLES[:27] + SAMPLES[27::6]


class Rows(unittest.TestCase):
    def assert_settled(self, rows):
        self.assertIsInstance(rows, tuple)
        before = None
        for pair in rows:
            self.assertIsInstance(pair, tuple)
            low, high = pair
            self.assertLessEqual(ORDER.index(low), ORDER.index(high))
            if before is not None:
                self.assertGreater(ORDER.index(low), before + 1)
            before = ORDER.index(high)

    def assert_told(self, rows, signs):
        self.assert_settled(rows)
        self.assertEqual(held_by(rows), "".join(signs))

    def test_settled_holds_just_the_same(self):
        for rows in SAMPLES:
            self.assert_told(settled(rows), held_by(rows))

    def test_settled_of_the_edges(self):
        self.assertEqual(settled(()), ())
        self.assertEqual(settled((("\n", "\n"), (" ", " "))), (("\n", " "),))
        self.assertEqual(settled((("&", "("), ("#", "$"))), (("#", "("),))
        self.assertEqual(settled((("c", "d"), ("a", "a"))), (("a", "a"), ("c", "d")))
        self.assertEqual(settled(tuple((sign, sign) for sign in ORDER)), ALL)
        self.assertEqual(settled((("\n", "\n"), ("!", "!"))), (("\n", "\n"), ("!", "!")))

    def test_settled_of_settled_rows_is_itself(self):
        for rows in SAMPLES:
            self.assertEqual(settled(settled(rows)), settled(rows))
        self.assertEqual(settled((("a", "c"), ("e", "f"))), (("a", "c"), ("e", "f")))

    def test_turned(self):
        for rows in SAMPLES:
            held = held_by(rows)
            self.assert_told(turned(rows), [sign for sign in ORDER if sign not in held])
        self.assertEqual(turned(()), ALL)
        self.assertEqual(turned(ALL), ())
        self.assertEqual(turned((("$", "$"),)), (("\n", "#"), ("&", "~")))

    def test_turned_twice(self):
        for rows in SAMPLES:
            self.assertEqual(turned(turned(rows)), settled(rows))

    def test_joined_and_common(self):
        for rows in SHORT:
            for others in SHORT:
                one, other = held_by(rows), held_by(others)
                self.assert_told(joined(rows, others), [sign for sign in ORDER if sign in one or sign in other])
                self.assert_told(common(rows, others), [sign for sign in ORDER if sign in one and sign in other])

    def test_with_twins(self):
        for rows in SAMPLES:
            held = held_by(rows)
            self.assert_told(with_twins(rows), [sign for sign in ORDER if sign in held or twin_of(sign) in held])
        self.assertEqual(with_twins((("y", "{"),)), (("Y", "Z"), ("y", "{")))
        self.assertEqual(with_twins((("Z", "["),)), (("Z", "["), ("z", "z")))

    def test_holds(self):
        for rows in SAMPLES:
            held = held_by(rows)
            for sign in ORDER:
                self.assertIs(holds(rows, sign), sign in held)

    def test_signs_held_by_settled_rows(self):
        for rows in SAMPLES:
            self.assertEqual(signs_held(settled(rows)), held_by(rows))
        self.assertEqual((signs_held(()), signs_held(ALL)), ("", ORDER))

    def test_first_held(self):
        for rows in SAMPLES:
            held = held_by(rows)
            self.assertEqual(first_held(rows), held[0] if held else None)
        self.assertIsNone(first_held(()))
        self.assertEqual(first_held((("c", "d"), ("b", "z"))), "b")


class Marks(unittest.TestCase):
    def told(self, many):
        tables = [held_by(rows) for rows in many]
        firsts = {}
        for sign in ORDER:
            firsts.setdefault(tuple(sign in held for held in tables), sign)
        return sorted(firsts.values(), key=ORDER.index)

    def test_marks_of_no_rows(self):
        self.assertEqual(marks([]), ["\n"])
        self.assertEqual(marks([()]), ["\n"])
        self.assertEqual(marks([ALL]), ["\n"])

    def test_marks_of_one(self):
        for rows in SAMPLES:
            self.assertEqual(marks([rows]), self.told([rows]))
        self.assertEqual(marks([(("b", "c"), ("x", "x"))]), ["\n", "b"])
        self.assertEqual(marks([(("\n", "a"),)]), ["\n", "b"])

    def test_marks_of_many(self):
        chance = rng(11)
        for many in (2, 3, 4, 6, 10):
            for _ in range(8):
                rows = chance.sample(SAMPLES, many)
                self.assertEqual(marks(rows), self.told(rows))
        self.assertEqual(marks([(("b", "d"),), (("c", "f"),)]), ["\n", "b", "c", "e"])

    def test_marks_of_the_same_twice(self):
        for rows in SHORT:
            self.assertEqual(marks([rows, rows]), marks([rows]))
            self.assertEqual(marks([rows, turned(rows)]), marks([rows]))

    def test_marks_of_each_sign_and_of_a_thousand(self):
        self.assertEqual(marks([((sign, sign),) for sign in ORDER]), list(ORDER))
        many = [any_rows(rng(number), 3) for number in range(1000)]
        self.assertEqual(marks(many), list(ORDER))
        self.assertEqual(marks([(("a", "f"),)] * 1000), ["\n", "a"])


class NothingIsChanged(unittest.TestCase):
    def test_what_is_handed_in_stays(self):
        many = copy.deepcopy(SHORT)
        for rows in many:
            settled(rows), turned(rows), with_twins(rows), first_held(rows), holds(rows, "a")
            joined(rows, many[0]), common(rows, many[3])
        marks(many)
        self.assertEqual(many, SHORT)

    def test_each_told_list_is_a_new_one(self):
        many = [(("b", "c"),)]
        told = marks(many)
        told.clear()
        many.append((("x", "x"),))
        self.assertEqual(marks([(("b", "c"),)]), ["\n", "b"])
        self.assertEqual(marks(many), ["\n", "b", "x"])

    def test_asked_again_in_another_order(self):
        def answers(rows):
            return (settled(rows), turned(rows), with_twins(rows), first_held(rows), marks([rows]),
                    joined(rows, ALL[:0]), common(rows, ALL))
        first = [answers(rows) for rows in SHORT]
        again = [answers(rows) for rows in reversed(SHORT)]
        self.assertEqual(first, again[::-1])


if __name__ == "__main__":
    unittest.main()
