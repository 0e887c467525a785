"""Promise 42: pages."""

import unittest

from atomglass.book import Book
from atomglass.errors import NoPlace, TooMany, TooMuch
from atomglass.finds import finds
from atomglass.page import Page
from tests.small_patterns import made
from tests.things import no_strings, rng

SLOW = "(a|a)*b|c"
LONG = "a" * 40


class Rows:
    """What a page has to tell, said plainly: each row a list of its text and whether it was looked through."""

    def __init__(self, pattern):
        self.pattern, self.rows, self.sought = pattern, [], 0

    def all_finds(self):
        told = []
        for number, row in enumerate(self.rows):
            told += [(number, way.begin, way.end) for way in finds(self.pattern, row[0])]
            self.sought += not row[1]
            row[1] = True
        return told


def filled_page(written, *texts):
    page = Page(made(written))
    for number, text in enumerate(texts):
        page.put(number, text)
    return page


class Deeds(unittest.TestCase):
    def test_a_new_one(self):
        page = Page(made("a"))
        self.assertEqual((page.texts(), page.all_finds(), page.sought), ([], [], 0))

    def test_put_at_each_number(self):
        for at, wanted in enumerate((["x", "a", "b", "c"], ["a", "x", "b", "c"], ["a", "b", "x", "c"], ["a", "b", "c", "x"])):
            page = filled_page("a", "a", "b", "c")
            self.assertIsNone(page.put(at, "x"))
            self.assertEqual(page.texts(), wanted)

    def test_change_and_drop_at_each_number(self):
        for at in range(3):
            page = filled_page(".", "a", "bb", "ccc")
            self.assertIsNone(page.change(at, "x"))
            wanted = ["a", "bb", "ccc"]
            wanted[at] = "x"
            self.assertEqual(page.texts(), wanted)
            self.assertIsNone(page.drop(at))
            del wanted[at]
            self.assertEqual(page.texts(), wanted)

    def test_all_finds_by_hand(self):
        page = filled_page("a*", "baa", "", "c")
        wanted = [(0, 0, 0), (0, 1, 3), (0, 3, 3), (1, 0, 0), (2, 0, 0), (2, 1, 1)]
        self.assertEqual(page.all_finds(), wanted)
        page.drop(1)
        self.assertEqual(page.all_finds(), [(0, 0, 0), (0, 1, 3), (0, 3, 3), (1, 0, 0), (1, 1, 1)])

    def test_patterns_of_all_words(self):
        for written in ("(x:.)&x;", "@<a", "(<a)b", "(!a*)b", "(>~a)."):
            page = filled_page(written, "aab", "bb", "")
            ways = [[(number, way.begin, way.end) for way in finds(made(written), text)]
                    for number, text in enumerate(page.texts())]
            self.assertEqual(page.all_finds(), sum(ways, []))

    def test_only_new_rows_are_looked_through(self):
        page = filled_page("a", "a", "ba", "")
        self.assertEqual(page.sought, 0)
        page.all_finds()
        self.assertEqual(page.sought, 3)
        page.all_finds()
        page.texts()
        self.assertEqual(page.sought, 3)
        page.put(1, "aa")
        self.assertEqual(page.sought, 3)
        self.assertEqual(page.all_finds(), [(0, 0, 1), (1, 0, 1), (1, 1, 2), (2, 1, 2)])
        self.assertEqual(page.sought, 4)
        page.change(0, "a")
        page.all_finds()
        self.assertEqual(page.sought, 5)
        page.change(2, "b")
        page.change(2, "ab")
        self.assertEqual(page.all_finds(), [(0, 0, 1), (1, 0, 1), (1, 1, 2), (2, 0, 1)])
        self.assertEqual(page.sought, 6)
        page.drop(1)
        page.all_finds()
        self.assertEqual(page.sought, 6)
        page.put(0, "new")
        page.drop(0)
        page.all_finds()
        self.assertEqual(page.sought, 6)
        page.drop(0)
        page.put(0, "a")
        page.all_finds()
        self.assertEqual(page.sought, 7)

    def test_deeds_in_every_order_by_chance(self):
        texts = ["", "a", "ab", "ba", "aab", "bbb"]
        for seed, written in enumerate(("a", "a*", "@>", "(x:a|b)*~b", "(<a)b")):
            chance, page, rows = rng(420 + seed), Page(made(written)), Rows(made(written))
            for _ in range(500):
                deed, many = chance.choice(["put", "put", "change", "drop", "ask", "ask"]), len(rows.rows)
                at, text = chance.randrange(many + 1), chance.choice(texts)
                if deed == "put" and many < 40:
                    page.put(at, text)
                    rows.rows.insert(at, [text, False])
                elif deed == "change" and at < many:
                    page.change(at, text)
                    rows.rows[at] = [text, False]
                elif deed == "drop" and at < many:
                    page.drop(at)
                    del rows.rows[at]
                elif deed == "ask":
                    self.assertEqual(page.all_finds(), rows.all_finds())
                self.assertEqual(page.texts(), [row[0] for row in rows.rows])
                self.assertEqual(page.sought, rows.sought)


class Refused(unittest.TestCase):
    def assert_no_place(self, page, call, at):
        held, sought = page.texts(), page.sought
        with self.assertRaises(NoPlace) as caught:
            call()
        self.assertIs(caught.exception.at, at)
        self.assertEqual((page.texts(), page.sought), (held, sought))

    def no_numbers(self, many):
        """Whatever is no number of one of so many rows."""
        things = no_strings() + ["", "0", "a", -1, -2, -many, -10 ** 20, many, many + 1, many + 2, 10 ** 20, [0], (0,)]
        return [thing for thing in things if not (type(thing) is int and 0 <= thing < many)]

    def test_what_is_no_number(self):
        for many in (0, 1, 3, 39, 40):
            page = filled_page("a", *["ab"] * many)
            for at in self.no_numbers(many):
                self.assert_no_place(page, lambda: page.change(at, "x"), at)
                self.assert_no_place(page, lambda: page.drop(at), at)
            for at in self.no_numbers(many + 1):
                self.assert_no_place(page, lambda: page.put(at, "x"), at)

    def test_a_forty_first_row(self):
        page = filled_page("a", *["a"] * 40)
        page.all_finds()
        for at in (0, 1, 20, 39, 40):
            with self.assertRaises(TooMany) as caught:
                page.put(at, "x")
            self.assertEqual(caught.exception.most, 40)
            self.assertEqual((page.texts(), page.sought), (["a"] * 40, 40))
        # NoPlace goes first.
        self.assert_no_place(page, lambda: page.put(41, "x"), 41)
        self.assert_no_place(page, lambda: page.put(-1, "x"), -1)
        page.change(39, "b")
        page.drop(0)
        page.put(39, "c")
        self.assertEqual(page.texts(), ["a"] * 38 + ["b", "c"])
        page.all_finds()
        self.assertEqual(page.sought, 42)

    def test_refused_changes_leave_rows_looked_through(self):
        page = filled_page("a", "a", "b")
        page.all_finds()
        for call in (lambda: page.change(2, "a"), lambda: page.put(3, "a"), lambda: page.drop(True), lambda: page.change(None, "")):
            with self.assertRaises(NoPlace):
                call()
        self.assertEqual((page.all_finds(), page.sought), ([(0, 0, 1)], 2))


class GivenUp(unittest.TestCase):
    def assert_too_much(self, page):
        with self.assertRaises(TooMuch) as caught:
            page.all_finds()
        self.assertEqual(caught.exception.most, 20000)

    def test_rows_ahead_are_looked_through(self):
        page = filled_page(SLOW, "c", "ab", LONG, "cc", "b")
        self.assert_too_much(page)
        self.assertEqual(page.sought, 2)
        self.assert_too_much(page)
        self.assertEqual(page.sought, 2)
        self.assertEqual(page.texts(), ["c", "ab", LONG, "cc", "b"])
        page.change(2, "aab")
        self.assertEqual(page.all_finds(), [(0, 0, 1), (1, 0, 2), (2, 0, 3), (3, 0, 1), (3, 1, 2), (4, 0, 1)])
        self.assertEqual(page.sought, 5)

    def test_the_first_row(self):
        page = filled_page(SLOW, LONG, "c")
        self.assert_too_much(page)
        self.assertEqual(page.sought, 0)
        page.drop(0)
        self.assertEqual((page.all_finds(), page.sought), ([(0, 0, 1)], 1))

    def test_the_last_row_and_a_second_one(self):
        page = filled_page(SLOW, "c", LONG, "c", LONG)
        self.assert_too_much(page)
        self.assertEqual(page.sought, 1)
        page.drop(1)
        self.assert_too_much(page)
        self.assertEqual(page.sought, 2)
        page.put(0, "b")
        self.assert_too_much(page)
        self.assertEqual(page.sought, 3)
        page.change(3, "")
        self.assertEqual((page.all_finds(), page.sought), ([(0, 0, 1), (1, 0, 1), (2, 0, 1)], 4))

    def test_a_row_that_is_found_in_ahead_of_where_it_gives_up(self):
        page = filled_page(SLOW, "ccc" + LONG)
        self.assert_too_much(page)
        self.assertEqual(page.sought, 0)

    def test_rows_moved_behind_one_that_gives_up(self):
        page = filled_page(SLOW, "c")
        page.all_finds()
        page.put(0, LONG)
        self.assert_too_much(page)
        self.assertEqual(page.sought, 1)
        page.drop(0)
        self.assertEqual((page.all_finds(), page.sought), ([(0, 0, 1)], 1))


class Apart(unittest.TestCase):
    def test_told_lists_are_the_askers_own(self):
        page = filled_page("a", "a", "b")
        page.texts().clear()
        page.texts()[0] = "x"
        page.all_finds().append((9, 9, 9))
        page.all_finds().clear()
        self.assertEqual((page.texts(), page.all_finds()), (["a", "b"], [(0, 0, 1)]))

    def test_two_pages_by_turns(self):
        pattern = made("a")
        one, other = Page(pattern), Page(pattern)
        one.put(0, "a")
        one.all_finds()
        other.put(0, "ba")
        self.assertEqual((one.texts(), other.texts(), one.sought, other.sought), (["a"], ["ba"], 1, 0))
        self.assertEqual((other.all_finds(), one.all_finds()), ([(0, 1, 2)], [(0, 0, 1)]))
        self.assertEqual((one.sought, other.sought), (1, 1))

    def test_a_page_goes_on_when_the_book_has_thrown_its_pattern_out(self):
        book = Book(1)
        page = Page(book.pattern("a+"))
        page.put(0, "baa")
        book.pattern("b")
        self.assertEqual(book.kept(), ["b"])
        page.put(1, "a")
        self.assertEqual(page.all_finds(), [(0, 1, 3), (1, 0, 1)])
        book.pattern("a+")
        self.assertEqual(page.all_finds(), [(0, 1, 3), (1, 0, 1)])


if __name__ == "__main__":
    unittest.main()
