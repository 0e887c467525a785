"""Promises 1 to 8 over the whole program: all files together, over many patterns and texts."""

import copy
import unittest

from atomglass.book import Book
from atomglass.compare import compared
from atomglass.desk import Desk
from atomglass.errors import GlassError, TooMany, Unfit
from atomglass.finds import TABLE, THREADS, WALK, finds, pieces, put_together, spots
from atomglass.judge import judged
from atomglass.page import Page
from atomglass.pattern import Pattern
from atomglass.plainer import plainer
from atomglass.reader import read_pattern
from atomglass.scan import Scan
from atomglass.sets import marks, settled
from atomglass.table import Table
from atomglass.templates import filled, read_template, replaced
from atomglass.threads import Threads
from atomglass.trees import group_names
from atomglass.walker import Walker
from atomglass.writer import show_pattern
from tests.plain_forms import tangled_trees
from tests.small_patterns import FREE, PLAIN, made, small_patterns, texts_over
from tests.things import rng

TEXTS = ["", "a", "ab", "abba", "aab\nb", "b a\nab", "Abab c"]


def trees(seed, many):
    """Trees without a fault, of all words."""
    chance = rng(seed)
    drawn = small_patterns(chance, many, FREE + ["edge", "back"], "ab\n", most_rows=40)
    return tangled_trees(chance, many, depths=(2, 3)) + [pattern.tree for pattern in drawn]


def is_plain(pattern):
    return not {"once", "look", "edge", "back"} & {row[0] for row in pattern.code()}


def has_backs(pattern):
    return "back" in [row[0] for row in pattern.code()]


class OneMeaning(unittest.TestCase):
    """Promises 5, 6 and 7: a tree written, read, made plainer, and asked in each way."""

    def assert_engines_agree(self, pattern, text, at):
        way = Walker(pattern, text).first(at)
        if not has_backs(pattern):
            threads = Threads(pattern, text)
            told = threads.first(at)
            self.assertEqual(told, way)
            self.assertEqual(told and told.choices, way and way.choices)
        if is_plain(pattern):
            self.assertEqual(Table(pattern).stop(text, at), way and way.end)
        return way

    def test_written_read_and_made_plainer(self):
        for tree in trees(5, 150):
            again = read_pattern(show_pattern(tree))
            self.assertEqual(again, tree)
            plain = plainer(again)
            self.assertEqual(read_pattern(show_pattern(plain)), plain)
            self.assertEqual(group_names(plain), group_names(tree))
            pattern, other = Pattern(again), Pattern(plain)
            for text in TEXTS:
                for at in range(len(text) + 1):
                    way = self.assert_engines_agree(pattern, text, at)
                    self.assertEqual(self.assert_engines_agree(other, text, at), way, (tree, text, at))

    def test_a_pattern_made_plainer_is_alike(self):
        parted = 0
        for pattern in small_patterns(rng(7), 200, PLAIN + ["flags"], "ab", most_rows=40):
            other = Pattern(plainer(pattern.tree))
            try:
                word, rows = compared(pattern, other)
            except TooMany:
                continue
            self.assertEqual(word, "alike", pattern.tree)
            self.assertEqual(compared(pattern, pattern)[0], "alike")
            # What is told of the one by stands is told by walking, too.
            for text, stand, fellow in rows[:20]:
                whole = len(text) in [way.end for way in Walker(pattern, text).ways(0, most=10 ** 6)]
                self.assertEqual(len(pattern.code()) - 1 in stand, whole)
                self.assertEqual(len(other.code()) - 1 in fellow, whole)
            parted += 1
        self.assertGreater(parted, 150)

    def test_judged_walked_and_by_threads(self):
        words = set()
        for pattern in small_patterns(rng(77), 120, PLAIN, "ab", most_rows=30):
            told = judged(pattern)
            words.add(told[0])
            for text in ("", "abab", "aaab", "bbbbbb"):
                threads, walker = Threads(pattern, text), Walker(pattern, text)
                for at in range(len(text) + 1):
                    threads.ends(at)
                    self.assertLessEqual(threads.entered, len(pattern.code()) * (len(text) - at + 1))
                    toil = walker.toil(at, most=10 ** 6)
                    self.assertGreaterEqual(toil, threads.entered)
                    if told[0] == "line":
                        self.assertEqual(toil, threads.entered)
        self.assertEqual(words, {"line", "twice", "wild"})


class NothingLeftOut(unittest.TestCase):
    """Promise 8: what is found, by whichever file it is asked."""

    def test_finds_pieces_replaced_scans_pages_and_desks(self):
        for tree in trees(8, 80):
            pattern = Pattern(tree)
            page = Page(pattern)
            for number, text in enumerate(TEXTS):
                ways = finds(pattern, text)
                taken = [text[way.begin:way.end] for way in ways]
                self.assertEqual(put_together(pieces(pattern, text), taken), text)
                self.assertEqual(replaced(pattern, text, "&0;"), text)
                self.assertEqual([filled(pattern, way, text, read_template("&0;")) for way in ways], taken)
                self.assertEqual(replaced(pattern, text, "-"), "-".join(pieces(pattern, text)))
                self.assertEqual(spots(pattern, text, engine=WALK), [(way.begin, way.end) for way in ways])
                scan = Scan(pattern, text)
                self.assertEqual([scan.go() for _ in ways] + [scan.go()], ways + [None])
                page.put(number, text)
                self.assert_desk_agrees(tree, text, ways)
                if not has_backs(pattern):
                    self.assertEqual(finds(pattern, text, engine=THREADS), ways)
                if is_plain(pattern):
                    self.assertEqual(spots(pattern, text, engine=TABLE), spots(pattern, text, engine=WALK))
            wanted = [(number, *spot) for number, text in enumerate(TEXTS) for spot in spots(pattern, text, engine=WALK)]
            self.assertEqual((page.all_finds(), page.all_finds(), page.sought), (wanted, wanted, len(TEXTS)))

    def assert_desk_agrees(self, tree, text, ways):
        desk = Desk()
        desk.say("let p " + show_pattern(tree))
        desk.say("on " + text)
        self.assertEqual(desk.say("all p"), " ".join([str(way) for way in ways]) or "none")
        self.assertEqual(desk.say("fill p &&&0;"), replaced(Pattern(tree), text, "&&&0;"))
        self.assertEqual(desk.say("plain p"), show_pattern(plainer(tree)))

    def test_a_plainer_pattern_finds_the_same(self):
        for tree in trees(88, 80):
            pattern, other = Pattern(tree), Pattern(plainer(tree))
            template = "<&0;>" + "".join(f"[&{number};]" for number in range(1, pattern.groups + 1))
            for text in TEXTS:
                self.assertEqual(finds(other, text), finds(pattern, text))
                self.assertEqual(replaced(other, text, template), replaced(pattern, text, template))

    def test_kept_patterns_and_states_change_nothing(self):
        texts = ["a*", "(a|b)*b", "a|b|", "(ab?)*", "b+a"]
        book, tables = Book(2), {}
        for _ in range(2):
            for written in texts + texts[::-1]:
                pattern = book.pattern(written)
                table = tables.setdefault(written, Table(pattern, most=2))
                for text in texts_over("ab", 4):
                    self.assertEqual(finds(pattern, text), finds(made(written), text))
                    self.assertEqual(table.stop(text, 0), Table(pattern).stop(text, 0))


class AskedAgain(unittest.TestCase):
    """Promises 3 and 4: what is asked, and what is refused, changes nothing."""

    def questions(self):
        """All kinds of questions, each with things to ask of."""
        pattern, other, wild, back = made("(x:a|b)*c?"), made("[ab]*c?"), made("(a|a)*b"), made("(x:a)&x;")
        walker, threads, table = Walker(pattern, "abcab"), Threads(pattern, "abcab"), Table(pattern)
        return [
            lambda: pattern.code(), lambda: pattern.names(), lambda: walker.ways(0), lambda: threads.ends(0),
            lambda: walker.first(1), lambda: threads.first(1), lambda: table.stop("abcab", 3), lambda: table.takes("abc"),
            lambda: compared(pattern, other), lambda: judged(pattern), lambda: judged(wild), lambda: plainer(pattern.tree),
            lambda: finds(pattern, "abcab"), lambda: spots(pattern, "abcab"), lambda: pieces(other, "xabcy"),
            lambda: replaced(back, "aab", "<&x;>"), lambda: read_template("&x;a&&"), lambda: settled((("b", "b"), ("a", "a"))),
            lambda: marks([(("a", "b"),)]), lambda: put_together(["a", "b"], ["c"]), lambda: walker.toil(2),
            lambda: Walker(wild, "a" * 40).first(0), lambda: Threads(back, "a"), lambda: judged(back), lambda: table.stop("a", 7),
            lambda: walker.first(-1), lambda: spots(back, "aa"), lambda: finds(wild, "a" * 40), lambda: read_template("&"),
            lambda: compared(back, wild), lambda: replaced(pattern, "", "&y;"), lambda: plainer(("many", ("any",), 0, 0, "most")),
            lambda: read_pattern("(a"), lambda: Pattern(("back", 1)), lambda: Book(1).pattern("&x;"), lambda: Desk().say("judge a"),
            lambda: Page(pattern).put(1, "a"), lambda: Scan(pattern, "a").back_to(2), lambda: finds(pattern, "a", engine="x"),
            lambda: Desk().say("names "), lambda: walker.toil(0, most=3),
        ]

    def answer(self, question):
        try:
            return question()
        except GlassError as refusal:
            return (type(refusal), vars(refusal))

    def test_in_any_order(self):
        questions = self.questions()
        before = [copy.deepcopy(self.answer(question)) for question in questions]
        refused = [told for told in before if isinstance(told, tuple) and told and isinstance(told[0], type)]
        self.assertGreater(len(refused), 15)
        chance = rng(3)
        for _ in range(3):
            order = list(range(len(questions)))
            chance.shuffle(order)
            for number in order:
                told = self.answer(questions[number])
                self.assertEqual(told, before[number], number)
                # A list that was told is the asker's own.
                if isinstance(told, list):
                    told.append("changed")
                    told.reverse()
                elif isinstance(told, tuple) and isinstance(told[-1], list):
                    told[-1].clear()

    def test_refusals_stand_right_under_glass_error(self):
        seen = set()
        for question in self.questions():
            told = self.answer(question)
            if isinstance(told, tuple) and told and isinstance(told[0], type):
                self.assertEqual(told[0].__mro__[1:3], (GlassError, ValueError))
                seen.add(told[0].__name__)
        self.assertEqual(seen, {"NoPlace", "Bad", "NoPattern", "Unfit", "TooMuch", "NoTemplate", "NoName", "NoRow"})

    def test_a_pattern_is_shared_by_all(self):
        pattern = made("(x:a+)b*")
        code, names, tree = pattern.code(), pattern.names(), copy.deepcopy(pattern.tree)
        page, scan = Page(pattern), Scan(pattern, "aabab")
        page.put(0, "aab")
        for _ in range(2):
            finds(pattern, "aab", engine=THREADS)
            replaced(pattern, "aab", "&x;")
            judged(pattern)
            page.all_finds()
            scan.go()
            with self.assertRaises(Unfit):
                finds(pattern, "", engine=TABLE)
        self.assertEqual((pattern.code(), pattern.names(), pattern.tree), (code, names, tree))


if __name__ == "__main__":
    unittest.main()
