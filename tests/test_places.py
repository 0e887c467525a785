"""Promise 2 as far as it says what a whole number and a place of a text are, and promise 25's NoPlace."""

import unittest

from atomglass.errors import NoPlace
from atomglass.places import check_place, is_place
from tests.things import no_strings


class Places(unittest.TestCase):
    def test_from_the_begin_to_the_end(self):
        for text in ("", "a", "ab\n", "x" * 400):
            for at in range(-3, len(text) + 4):
                self.assertIs(is_place(at, text), 0 <= at <= len(text), (at, len(text)))

    def test_what_is_no_whole_number(self):
        text = "x" * 400
        for thing in no_strings() + ["", "0", "a", b"0", [0], (0,), {0: 0}]:
            right = type(thing) is int and 0 <= thing <= 400
            self.assertIs(is_place(thing, text), right, thing)
        for truth in (True, False):
            self.assertIs(is_place(truth, text), False)

    def test_far_away(self):
        for at in (10 ** 30, -10 ** 30, 401, -1):
            self.assertIs(is_place(at, "x" * 400), False)

    def test_what_is_none_is_refused(self):
        for thing in no_strings() + ["", "0", -1, 4, 10 ** 30]:
            if type(thing) is int and 0 <= thing <= 3:
                self.assertIsNone(check_place(thing, "abc"))
                continue
            with self.assertRaises(NoPlace) as caught:
                check_place(thing, "abc")
            self.assertIs(caught.exception.at, thing)


if __name__ == "__main__":
    unittest.main()
