"""Promise 41: books."""

import unittest

from atomglass.book import Book
from atomglass.errors import Bad, NoPattern
from atomglass.pattern import Pattern
from atomglass.reader import read_pattern
from tests.things import no_strings, rng

NO_PATTERNS = ["(", "a)", "*", "a{15,1}", "[z-a]", "&x", "a" * 401, "a\n", "\\"]
FAULTY = ["&x;", "(a*)*", "(x:a)(x:b)", "(>(:a))", "a{20}(a{20}){20}", "(:a)&2;", "(:a)" * 10]


class Shelf:
    """What a book has to tell, said by a list of texts alone."""

    def __init__(self, most):
        self.most, self.texts, self.made = most, [], 0

    def ask(self, text):
        """Asks for a text; tells whether it was kept."""
        kept = text in self.texts
        if kept:
            self.texts.remove(text)
        else:
            self.made += 1
        self.texts = (self.texts + [text])[-self.most:]
        return kept


class Books(unittest.TestCase):
    def test_a_new_one(self):
        book = Book(3)
        self.assertEqual((book.made, book.kept()), (0, []))

    def test_the_very_same_pattern(self):
        book = Book(2)
        one = book.pattern("a*")
        self.assertIsInstance(one, Pattern)
        self.assertEqual(one.tree, read_pattern("a*"))
        self.assertIs(book.pattern("a*"), one)
        other = book.pattern("(x:b)")
        self.assertIs(book.pattern("a*"), one)
        self.assertIs(book.pattern("(x:b)"), other)
        self.assertEqual((other.groups, other.names(), book.made), (1, ["x"], 2))

    def test_two_texts_that_write_one_tree_are_two(self):
        book = Book(5)
        one, other = book.pattern("a"), book.pattern("(a)")
        self.assertEqual(one.tree, other.tree)
        self.assertIsNot(one, other)
        self.assertEqual((book.made, book.kept()), (2, ["a", "(a)"]))
        self.assertIs(book.pattern("a"), one)
        self.assertIs(book.pattern("(a)"), other)

    def test_the_empty_text(self):
        book = Book(1)
        one = book.pattern("")
        self.assertEqual((one.tree, book.kept(), book.made), (("row", ()), [""], 1))
        self.assertIs(book.pattern(""), one)

    def test_the_one_longest_not_asked_for_goes(self):
        book = Book(2)
        one, two = book.pattern("a"), book.pattern("b")
        self.assertEqual(book.kept(), ["a", "b"])
        self.assertIs(book.pattern("a"), one)
        self.assertEqual(book.kept(), ["b", "a"])
        book.pattern("c")
        self.assertEqual((book.kept(), book.made), (["a", "c"], 3))
        again = book.pattern("b")
        self.assertIsNot(again, two)
        self.assertEqual((book.kept(), book.made), (["c", "b"], 4))
        self.assertEqual(again.tree, two.tree)

    def test_a_book_of_one(self):
        book = Book(1)
        for text in ("a", "b", "a"):
            told = book.pattern(text)
            self.assertIs(book.pattern(text), told)
            self.assertEqual(book.kept(), [text])
        self.assertEqual(book.made, 3)

    def test_by_chance_against_a_list(self):
        texts = ["a", "(a)", "b", "", "a|b", "(x:a)*", ".", "[ab]", "a{2}", "@<"] + [letter * 2 for letter in "cdefghijklmnop"]
        for most in (1, 2, 3, 5, 20):
            chance, book, shelf, told = rng(most), Book(most), Shelf(most), {}
            for _ in range(400):
                if chance.random() < 0.2:
                    with self.assertRaises((NoPattern, Bad)):
                        book.pattern(chance.choice(NO_PATTERNS + FAULTY))
                text = chance.choice(texts[:chance.choice([3, len(texts)])])
                kept, pattern = shelf.ask(text), book.pattern(text)
                if kept:
                    self.assertIs(pattern, told[text])
                elif text in told:
                    self.assertIsNot(pattern, told[text])
                told[text] = pattern
                self.assertEqual(pattern.tree, read_pattern(text))
                self.assertEqual((book.kept(), book.made), (shelf.texts, shelf.made))

    def test_just_twenty(self):
        book = Book(20)
        texts = ["a{" + str(number) + "}" for number in range(1, 21)]
        for text in texts:
            book.pattern(text)
        self.assertEqual((book.kept(), book.made), (texts, 20))
        book.pattern("b")
        self.assertEqual((book.kept(), book.made), (texts[1:] + ["b"], 21))


class Refused(unittest.TestCase):
    def assert_refused(self, book, text, error, **fields):
        held, made = book.kept(), book.made
        with self.assertRaises(error) as caught:
            book.pattern(text)
        self.assertEqual(vars(caught.exception), fields)
        self.assertEqual((book.kept(), book.made), (held, made))

    def books(self):
        full = Book(1)
        full.pattern("a")
        some = Book(3)
        for text in ("a", "b*"):
            some.pattern(text)
        return [Book(2), full, some]

    def test_for_their_writing(self):
        for book in self.books():
            for thing in no_strings():
                self.assert_refused(book, thing, NoPattern, at=0)
            for text in NO_PATTERNS:
                with self.assertRaises(NoPattern) as caught:
                    read_pattern(text)
                self.assert_refused(book, text, NoPattern, at=caught.exception.at)

    def test_for_a_fault(self):
        for book in self.books():
            for text in FAULTY:
                with self.assertRaises(Bad) as caught:
                    Pattern(read_pattern(text))
                self.assert_refused(book, text, Bad, word=caught.exception.word, path=caught.exception.path)

    def test_writing_goes_ahead_of_faults(self):
        self.assert_refused(Book(1), "(x:a)(x:b)(", NoPattern, at=11)


class Apart(unittest.TestCase):
    def test_two_books_by_turns(self):
        one, other = Book(2), Book(2)
        a = one.pattern("a")
        self.assertIsNot(other.pattern("a"), a)
        one.pattern("b")
        other.pattern("c")
        one.pattern("d")
        self.assertEqual((one.kept(), one.made, other.kept(), other.made), (["b", "d"], 3, ["a", "c"], 2))

    def test_told_lists_are_the_askers_own(self):
        book = Book(2)
        book.pattern("a")
        book.kept().clear()
        book.kept().append("b")
        self.assertEqual(book.kept(), ["a"])


if __name__ == "__main__":
    unittest.main()
