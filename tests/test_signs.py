"""Promises 2 and 9: signs, texts, names and whole numbers."""

import unittest

from atomglass.signs import is_name, is_sign, is_text, is_whole, is_word, rank, sign_of, twin
from tests.things import FIGURES, GREAT, ORDER, SMALL, no_strings


class Order(unittest.TestCase):
    def test_ninety_five_signs_have_the_ranks_from_0_to_94(self):
        self.assertEqual(len(ORDER), 95)
        self.assertEqual([rank(sign) for sign in ORDER], list(range(95)))

    def test_edges_of_the_order(self):
        self.assertEqual((rank("\n"), rank(" "), rank("!"), rank("~")), (0, 1, 2, 94))
        self.assertEqual((rank("$"), rank("&")), (5, 6))

    def test_sign_of_each_rank(self):
        self.assertEqual([sign_of(number) for number in range(95)], list(ORDER))

    def test_rank_and_sign_of_undo_each_other(self):
        for number in range(95):
            self.assertEqual(rank(sign_of(number)), number)


class Twins(unittest.TestCase):
    def test_the_twin_of_each_sign(self):
        for sign in ORDER:
            if sign in SMALL:
                told = GREAT[SMALL.index(sign)]
            elif sign in GREAT:
                told = SMALL[GREAT.index(sign)]
            else:
                told = sign
            self.assertEqual(twin(sign), told)

    def test_the_twins_twin(self):
        for sign in ORDER:
            self.assertEqual(twin(twin(sign)), sign)

    def test_is_word_of_each_sign(self):
        for sign in ORDER:
            self.assertIs(is_word(sign), sign in SMALL + GREAT + FIGURES + "_", sign)


class Kinds(unittest.TestCase):
    def test_is_sign(self):
        for sign in ORDER:
            self.assertIs(is_sign(sign), True, sign)
        for other in ("", "ab", "\n\n", "  ", " a", "\t", "\r", "\x00", "\x1f", "\x7f", "a\n", "abc", ORDER):
            self.assertIs(is_sign(other), False, repr(other))

    def test_is_text_by_length(self):
        for sign in ("a", "\n", " ", "~", "$"):
            for many in (0, 1, 2, 399, 400):
                self.assertIs(is_text(sign * many), True, (sign, many))
            for many in (401, 402, 1000):
                self.assertIs(is_text(sign * many), False, (sign, many))
        self.assertIs(is_text(ORDER), True)

    def test_is_text_by_its_signs_at_any_place(self):
        for wrong in ("\t", "\r", "\x00", "\x1f", "\x7f"):
            for many in (1, 2, 9, 399, 400):
                for at in {0, many // 2, many - 1}:
                    text = "b" * at + wrong + "b" * (many - 1 - at)
                    self.assertIs(is_text(text), False, (wrong, many, at))

    def test_is_name_by_length(self):
        for many in range(12):
            self.assertIs(is_name("q" * many), 1 <= many <= 8, many)
            self.assertIs(is_name(SMALL[:many]), 1 <= many <= 8, many)
            self.assertIs(is_name(SMALL[26 - many:]), 1 <= many <= 8, many)

    def test_is_name_by_its_signs_at_any_place(self):
        for wrong in ("\t", "\n", " ", "0", "7", "A", "Z", "_", "-", "`", "{"):
            for many in range(1, 9):
                for at in range(many):
                    name = "b" * at + wrong + "b" * (many - 1 - at)
                    self.assertIs(is_name(name), False, name)

    def test_each_letter_may_stand_in_a_name(self):
        for sign in ORDER:
            self.assertIs(is_name(sign), sign in SMALL, sign)

    def test_what_is_no_str_is_none_of_them(self):
        for asked in (is_sign, is_text, is_name):
            for thing in no_strings():
                self.assertIs(asked(thing), False, thing)

    def test_is_whole(self):
        for number in (0, 1, -1, 20, 10 ** 30):
            self.assertIs(is_whole(number), True)
        for thing in (True, False, None, "", "1", [], [1], (), (1,), {}, b"1"):
            self.assertIs(is_whole(thing), False, thing)

    def test_asked_again_each_answer_is_the_same(self):
        handed = ["a", "", "ab", "a" * 400, "a" * 401, None, [], ["a"]]
        first = [(is_sign(thing), is_text(thing), is_name(thing)) for thing in handed]
        again = [(is_sign(thing), is_text(thing), is_name(thing)) for thing in reversed(handed)]
        self.assertEqual(first, again[::-1])
        self.assertEqual(handed, ["a", "", "ab", "a" * 400, "a" * 401, None, [], ["a"]])


if __name__ == "__main__":
    unittest.main()
