"""Promise 26: ways."""

import unittest

from atomglass.ways import Way


class Ways(unittest.TestCase):
    def test_fields(self):
        way = Way(3, 5, ((3, 4), None), (0, 1, 1))
        self.assertEqual((way.begin, way.end, way.spans, way.choices), (3, 5, ((3, 4), None), (0, 1, 1)))
        way = Way(0, 0, (), ())
        self.assertEqual((way.begin, way.end, way.spans, way.choices), (0, 0, (), ()))

    def test_equal_whatever_the_choices(self):
        one = Way(3, 5, ((3, 4), None), (0, 1))
        for choices in ((0, 1), (), (1,), (1, 0), (0,) * 50):
            other = Way(3, 5, ((3, 4), None), choices)
            self.assertTrue(one == other)
            self.assertTrue(other == one)
            self.assertFalse(one != other)
        self.assertEqual([one, Way(1, 1, (), ())], [Way(3, 5, ((3, 4), None), ()), Way(1, 1, (), (0,))])

    def test_not_equal_where_one_of_the_three_is_unlike(self):
        one = Way(3, 5, ((3, 4), None), (0,))
        for other in (
            Way(2, 5, ((3, 4), None), (0,)), Way(3, 6, ((3, 4), None), (0,)), Way(5, 3, ((3, 4), None), (0,)),
            Way(3, 5, ((3, 5), None), (0,)), Way(3, 5, ((2, 4), None), (0,)), Way(3, 5, (None, (3, 4)), (0,)),
            Way(3, 5, ((3, 4), (4, 4)), (0,)), Way(3, 5, ((3, 4),), (0,)), Way(3, 5, (), (0,)),
            Way(3, 5, ((3, 4), None, None), (0,)),
        ):
            self.assertFalse(one == other)
            self.assertFalse(other == one)
            self.assertTrue(one != other)

    def test_not_equal_to_other_things(self):
        way = Way(3, 5, (), ())
        for thing in (None, 0, "3-5", (3, 5), (3, 5, (), ()), [3, 5], {}, True):
            self.assertFalse(way == thing)
            self.assertTrue(way != thing)

    def test_its_text(self):
        self.assertEqual(str(Way(3, 5, (), ())), "3-5")
        self.assertEqual(str(Way(0, 0, ((0, 0),), (1,))), "0-0")
        self.assertEqual(str(Way(12, 400, (None,), ())), "12-400")
        self.assertEqual(f"{Way(7, 9, (), ())}", "7-9")

    def test_two_ways_know_nothing_of_each_other(self):
        one, other = Way(1, 2, ((1, 2),), (0,)), Way(3, 4, (None,), (1,))
        self.assertEqual((str(one), one.spans, one.choices), ("1-2", ((1, 2),), (0,)))
        self.assertEqual((str(other), other.spans, other.choices), ("3-4", (None,), (1,)))


if __name__ == "__main__":
    unittest.main()
