"""Promises 38 and 39: templates, and what they give."""

import re
import unittest

from atomglass.errors import NoName, NoTemplate, TooMuch, Unfit
from atomglass.finds import TABLE, THREADS, WALK, finds
from atomglass.templates import filled, read_template, replaced
from atomglass.walker import Walker
from atomglass.ways import Way
from tests.small_patterns import FREE, made, small_patterns, texts_over
from tests.things import ORDER, no_strings, rng

# The marks of a template as rows for Python's own patterns: a whole one, and the begin of one.
ITEM = "(?:[^&]|&&|&(?:[a-z]{1,8}|[0-9]);)"
WHOLE = re.compile(f"(?s:{ITEM}*)")
BEGUN = re.compile(f"(?s:{ITEM}*(?:&(?:[a-z]{{0,8}}|[0-9]))?)")
SLOW = "(a|a)*b"


def wanted_parts(text):
    told = []
    for item in re.findall(f"(?s){ITEM}", text):
        if item[0] != "&" or item == "&&":
            sign = item[0]
            if told and isinstance(told[-1], str):
                told[-1] += sign
            else:
                told.append(sign)
        else:
            told.append(("group", int(item[1:-1]) if item[1:-1].isdigit() else item[1:-1]))
    return told


def wanted_place(text):
    return next((at for at in range(len(text)) if not BEGUN.fullmatch(text[:at + 1])), len(text))


class Reading(unittest.TestCase):
    def assert_refused(self, template, at):
        with self.assertRaises(NoTemplate) as caught:
            read_template(template)
        self.assertEqual(caught.exception.at, at, template)

    def assert_right(self, text):
        if WHOLE.fullmatch(text):
            told = read_template(text)
            self.assertEqual(told, wanted_parts(text), text)
            self.assertIsInstance(told, list)
        else:
            self.assert_refused(text, wanted_place(text))

    def test_by_hand(self):
        for text, parts in (
            ("", []), ("a", ["a"]), ("ab c", ["ab c"]), ("&&", ["&"]), ("&&&&", ["&&"]), ("a&&b", ["a&b"]),
            ("&0;", [("group", 0)]), ("&9;", [("group", 9)]), ("&x;", [("group", "x")]), ("&abcdefgh;", [("group", "abcdefgh")]),
            ("<&1;-&year;>", ["<", ("group", 1), "-", ("group", "year"), ">"]), ("&1;&2;", [("group", 1), ("group", 2)]),
            ("&&&1;&&", ["&", ("group", 1), "&"]), ("\n;\\1", ["\n;\\1"]), ("&&1;", ["&1;"]), ("&x;x&&;&0;", [
                ("group", "x"), "x&;", ("group", 0)]), (";&1;;", [";", ("group", 1), ";"]),
        ):
            told = read_template(text)
            self.assertEqual(told, parts)
            for one, part in zip(told, parts):
                if isinstance(part, tuple):
                    self.assertIs(type(one[1]), type(part[1]))

    def test_places_by_hand(self):
        for text, at in (
            ("&", 1), ("a&", 2), ("&x", 2), ("&abcdefgh", 9), ("&abcdefghi;", 9), ("&1", 2), ("&12;", 2), ("&;", 1), ("& ;", 1),
            ("&A;", 1), ("&xA;", 2), ("&x1;", 2), ("&1x;", 2), ("&&&", 3), ("ab&-1;", 3), ("&x&&", 2), ("&x ;", 2), ("&\n", 1),
            ("&1;&", 4), ("&x;&y", 5), ("&&&&&", 5), ("&_;", 1),
        ):
            self.assert_refused(text, at)

    def test_all_short_ones(self):
        for text in texts_over("&a1;B", 5):
            self.assert_right(text)

    def test_by_chance(self):
        chance, right = rng(38), 0
        for _ in range(4000):
            pieces = ["&", "&&", "&x;", "&3;", "&abcdefgh;", "&abcdefghi", ";", "a", "Z ", "\n", "0", "&0", "&y"]
            text = "".join(chance.choices(pieces, k=chance.randrange(7)))
            self.assert_right(text)
            right += bool(WHOLE.fullmatch(text))
        self.assertGreater(right, 500)

    def test_each_sign_behind_the_mark(self):
        for sign in ORDER:
            self.assert_right("&" + sign)
            self.assert_right("&" + sign + ";")
            self.assert_right("&x" + sign)
            self.assert_right("&x" + sign + ";")
            self.assert_right("&3" + sign)
            self.assert_right(sign)
        self.assertEqual(read_template(ORDER.replace("&", "")), [ORDER.replace("&", "")])

    def test_what_is_no_str(self):
        for thing in no_strings():
            self.assert_refused(thing, 0)

    def test_four_hundred_signs(self):
        self.assertEqual(read_template("a" * 400), ["a" * 400])
        self.assertEqual(read_template("&&" * 200), ["&" * 200])
        self.assertEqual(read_template("a" * 397 + "&1;"), ["a" * 397, ("group", 1)])
        for text in ("a" * 401, "&" * 401, "&" + "a" * 400, "a" * 5000, "&1;" * 134):
            self.assert_refused(text, 400)
        self.assert_refused("a" * 399 + "&", 400)
        self.assert_refused("&;" + "a" * 398, 1)

    def test_what_is_no_sign(self):
        self.assert_refused("a\tb", 1)
        self.assert_refused("&\r;", 1)
        self.assert_refused("&1;\x00", 3)


class Filling(unittest.TestCase):
    def filled(self, written, text, template):
        pattern = made(written)
        way = finds(pattern, text)[0]
        return filled(pattern, way, text, read_template(template))

    def assert_no_name(self, call, which):
        with self.assertRaises(NoName) as caught:
            call()
        self.assertEqual(caught.exception.name, which)
        self.assertIs(type(caught.exception.name), type(which))

    def test_by_number_and_by_name(self):
        for template, wanted in (
            ("", ""), ("&0;", "2026-11"), ("&1;", "2026"), ("&year;", "2026"), ("&2;/&1;", "11/2026"), ("&&&3;", "&"),
            ("[&3;][&none;]", "[][]"), ("x", "x"), ("&0;&0;", "2026-112026-11"),
        ):
            told = self.filled("(year:[0-9]+)-(:[0-9]+)(none:x)?", "on 2026-11.", template)
            self.assertEqual(told, wanted, template)

    def test_names_among_groups_without(self):
        self.assertEqual(self.filled("(:a)(x:b)(:c)(y:d)", "abcd", "&y;&x;&1;&3;&4;"), "dbacd")

    def test_groups_without_a_span_and_with_an_empty_one(self):
        self.assertEqual(self.filled("(x:a)|(y:b)", "b", "<&x;|&y;>"), "<|b>")
        self.assertEqual(self.filled("(x:)a(y:c*)", "ba", "<&x;|&y;|&0;>"), "<||a>")
        self.assertEqual(self.filled("(x:a|b)*", "ab", "&x;"), "b")

    def test_only_begin_end_and_spans_are_looked_at(self):
        pattern = made("(x:a)b")
        for choices in ((), (1, 1, 1), None):
            way = Way(1, 3, ((1, 2),), choices)
            self.assertEqual(filled(pattern, way, "cab", [("group", "x"), "-", ("group", 0)]), "a-ab")

    def test_groups_that_are_not_there(self):
        pattern = made("(x:a)(:b)")
        way = Walker(pattern, "ab").first(0)
        for parts, which in (
            ([("group", 3)], 3), ([("group", 9)], 9), ([("group", "y")], "y"), (["a", ("group", "xx"), ("group", 5)], "xx"),
            ([("group", 1), ("group", 4), ("group", "y")], 4), ([("group", "x"), "b", ("group", "ab")], "ab"),
        ):
            self.assert_no_name(lambda: filled(pattern, way, "ab", parts), which)
        way = Walker(made("a"), "a").first(0)
        self.assert_no_name(lambda: filled(made("a"), way, "a", [("group", 1)]), 1)
        self.assertEqual(filled(made("a"), way, "a", [("group", 0)]), "a")

    def test_long_texts(self):
        pattern = made("(x:.*)")
        text = "a" * 400
        way = Walker(pattern, text).first(0)
        self.assertEqual(filled(pattern, way, text, [("group", "x")] * 5), "a" * 2000)

    def test_parts_handed_in_stay(self):
        pattern = made("(x:a)")
        way = Walker(pattern, "a").first(0)
        parts = ["<", ("group", "x"), ">"]
        filled(pattern, way, "a", parts)
        self.assertEqual(parts, ["<", ("group", "x"), ">"])
        parts = read_template("<&x;>")
        parts.append("!")
        self.assertEqual(read_template("<&x;>"), ["<", ("group", "x"), ">"])


class Replacing(unittest.TestCase):
    def assert_refused(self, error, call, field, worth):
        with self.assertRaises(error) as caught:
            call()
        self.assertEqual(getattr(caught.exception, field), worth)

    def test_by_hand(self):
        for written, text, template, wanted in (
            ("a", "banana", "<&0;>", "b<a>n<a>n<a>"), ("", "ab", "-", "-a-b-"), ("x", "ab", "-", "ab"), ("a*", "baac", "-", "-b--c-"),
            ("(x:.)(y:.)", "abcde", "&y;&x;", "badce"), ("a", "aaa", "", ""), ("a", "aaa", "&&", "&&&"), ("@^", "a\nb", "> ", "> a\n> b"),
            ("(x:a)|b", "ab", "[&x;]", "[a][]"), ("(x:.)&x;", "aabbc", "&1;", "abc"),
        ):
            self.assertEqual(replaced(made(written), text, template), wanted, written)
            if written != "(x:.)&x;":
                self.assertEqual(replaced(made(written), text, template, engine=THREADS), wanted, written)

    def test_held_against_ways_put_together(self):
        for pattern in small_patterns(rng(39), 100, FREE + ["edge"], "ab", most_rows=25):
            template = "<&0;>" + "".join(f"&{number};," for number in range(1, pattern.groups + 1))
            for text in ("", "ab", "aabba", "b a\nab"):
                wanted, at = "", 0
                for way in finds(pattern, text):
                    taken = ["" if span is None else text[slice(*span)] for span in way.spans]
                    wanted += text[at:way.begin] + "<" + text[way.begin:way.end] + ">" + "".join(one + "," for one in taken)
                    at = way.end
                wanted += text[at:]
                self.assertEqual(replaced(pattern, text, template), wanted)
                self.assertEqual(replaced(pattern, text, template, engine=THREADS), wanted)
                self.assertEqual(replaced(pattern, text, "&0;"), text)

    def test_more_signs_than_a_text_has(self):
        self.assertEqual(replaced(made("a"), "a" * 400, "&0;" * 100), "a" * 40000)

    def test_refused_where_nothing_is_found_too(self):
        for text in ("", "bbb"):
            self.assert_refused(NoName, lambda: replaced(made("(x:a)"), text, "&y;"), "name", "y")
            self.assert_refused(NoName, lambda: replaced(made("(x:a)"), text, "&1;&2;&z;"), "name", 2)
            self.assert_refused(NoTemplate, lambda: replaced(made("(x:a)"), text, "&x"), "at", 2)

    def test_what_goes_first(self):
        slow, long = made(SLOW), "a" * 40
        for engine in (WALK, TABLE, None, THREADS):
            self.assert_refused(NoTemplate, lambda: replaced(slow, long, "&y;&", engine=engine), "at", 4)
            self.assert_refused(NoName, lambda: replaced(slow, long, "&y;", engine=engine), "name", "y")
        self.assert_refused(Unfit, lambda: replaced(slow, long, "&0;", engine=TABLE), "word", "table")
        self.assert_refused(Unfit, lambda: replaced(slow, long, "&0;", engine=7), "word", 7)
        self.assert_refused(Unfit, lambda: replaced(made("(x:a)&x;"), "", "&x;", engine=THREADS), "word", "back")
        self.assert_refused(TooMuch, lambda: replaced(slow, long, "&0;"), "most", 20000)
        self.assertEqual(replaced(slow, long, "&0;", engine=THREADS), long)
        for thing in no_strings():
            self.assert_refused(NoTemplate, lambda: replaced(slow, long, thing, engine=None), "at", 0)

    def test_asked_again(self):
        asked = [("(x:a)|b", "abc", "[&x;]"), ("a*", "baac", "&&"), ("(x:.)(y:.)", "abcde", "&y;&x;")]
        before = [replaced(made(written), text, template) for written, text, template in asked]
        pattern = made("(x:a)")
        for (written, text, template), told in reversed(list(zip(asked, before))):
            for call in (lambda: replaced(pattern, "a", "&"), lambda: replaced(pattern, "a", "&y;"),
                         lambda: replaced(made(SLOW), "a" * 40, "")):
                with self.assertRaises((NoTemplate, NoName, TooMuch)):
                    call()
            self.assertEqual(replaced(made(written), text, template), told)


if __name__ == "__main__":
    unittest.main()
