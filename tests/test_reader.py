"""Promises 15 to 17: the tree that a text writes, and the place at which it is refused."""

import itertools
import unittest

from atomglass.errors import GlassError, NoPattern
from atomglass.faults import fault
from atomglass.reader import read_pattern
from atomglass.writer import show_pattern
from tests.grammar import BRACES, FLAG_HEADS, MARKS, ONES, refused_at
from tests.some_trees import A, ANY, B, EMPTY, choice, drawn, group, look, nested, row, star
from tests.things import ORDER, SMALL, Odd, no_strings, rng


def s(sign):
    return ("sign", sign)


WRITTEN = {
    # choices, options, items
    "": EMPTY, "a": A, "ab": row(A, B), "a|b": choice(A, B), "|": choice(EMPTY, EMPTY), "a|": choice(A, EMPTY),
    "|a": choice(EMPTY, A), "a||b": choice(A, EMPTY, B), "ab|b": choice(row(A, B), B), "aab": row(A, A, B),
    # brackets that stand for their choice alone
    "()": EMPTY, "(a)": A, "((a))": A, "(ab)": row(A, B), "(a|b)": choice(A, B), "a()": row(A, EMPTY),
    "(ab)a": row(row(A, B), A), "(a|b)a": row(choice(A, B), A), "(a|b)|a": choice(choice(A, B), A),
    "(ab)|a": choice(row(A, B), A), "()|": choice(EMPTY, EMPTY),
    # times
    "a*": star(A), "a+": ("many", A, 1, None, "most"), "a?": ("many", A, 0, 1, "most"),
    "a{1}": ("many", A, 1, 1, "most"), "a{20}": ("many", A, 20, 20, "most"), "a{0,}": star(A),
    "a{3,}": ("many", A, 3, None, "most"), "a{20,}": ("many", A, 20, None, "most"), "a{0,1}": ("many", A, 0, 1, "most"),
    "a{3,3}": ("many", A, 3, 3, "most"), "a{9,10}": ("many", A, 9, 10, "most"), "a{20,20}": ("many", A, 20, 20, "most"),
    "a*~": ("many", A, 0, None, "few"), "a*!": ("many", A, 0, None, "once"), "a+~": ("many", A, 1, None, "few"),
    "a?!": ("many", A, 0, 1, "once"), "a{2}~": ("many", A, 2, 2, "few"), "a{2,}!": ("many", A, 2, None, "once"),
    "a{2,3}~b": row(("many", A, 2, 3, "few"), B), "ab*": row(A, star(B)), "(ab)*": star(row(A, B)),
    "(a*)*": star(star(A)), "()?": ("many", EMPTY, 0, 1, "most"), ".*": star(ANY), "a*|b": choice(star(A), B),
    "\\**": star(s("*")), "[a]*": star(("set", (("a", "a"),), False)), "@<*": star(("edge", "start")),
    # signs
    ".": ANY, "\\.": s("."), "\\n": s("\n"), "\\\\": s("\\"), "\\\\n": row(s("\\"), s("n")), "^": s("^"), "$": s("$"),
    "-": s("-"), "/": s("/"), ",": s(","), "n": s("n"), " ": s(" "), "_": s("_"), "0": s("0"), "\"": s("\""),
    # sets
    "[a]": ("set", (("a", "a"),), False), "[^a]": ("set", (("a", "a"),), True), "[a-z]": ("set", (("a", "z"),), False),
    "[a-a]": ("set", (("a", "a"),), False), "[ab]": ("set", (("a", "a"), ("b", "b")), False),
    "[za-c]": ("set", (("z", "z"), ("a", "c")), False), "[\\]]": ("set", (("]", "]"),), False),
    "[\\\\\\^\\-]": ("set", (("\\", "\\"), ("^", "^"), ("-", "-")), False), "[\\n]": ("set", (("\n", "\n"),), False),
    "[\\n-~]": ("set", (("\n", "~"),), False), "[\\n-\\n]": ("set", (("\n", "\n"),), False),
    "[[(|.*]": ("set", tuple((sign, sign) for sign in "[(|.*"), False), "[n]": ("set", (("n", "n"),), False),
    "[A-\\^]": ("set", (("A", "^"),), False), "[\\--\\]]": ("set", (("-", "]"),), False),
    "[^\\^]": ("set", (("^", "^"),), True), "[$-&]": ("set", (("$", "&"),), False),
    "[!~]": ("set", (("!", "!"), ("~", "~")), False),
    # brackets with a head
    "(:a)": group("", A), "(x:a)": group("x", A), "(abcdefgh:a)": group("abcdefgh", A), "(x:)": group("x", EMPTY),
    "(x:a|b)": group("x", choice(A, B)), "(:(:a))": group("", group("", A)), "(a:a)": group("a", A),
    "(!a)": ("once", A), "(!)": ("once", EMPTY), "(!a|b)": ("once", choice(A, B)), "(!ab)": ("once", row(A, B)),
    "(>a)": look(A), "(>~a)": look(A, "noahead"), "(<a)": look(A, "behind"), "(<~a)": look(A, "nobehind"),
    "(>)": look(EMPTY), "(<~)": look(EMPTY, "nobehind"), "(>\\~)": look(s("~")),
    "(#a:b)": ("flags", "a", "", B), "(#l:b)": ("flags", "l", "", B), "(#al:b)": ("flags", "al", "", B),
    "(#-a:b)": ("flags", "", "a", B), "(#-l:b)": ("flags", "", "l", B), "(#-al:b)": ("flags", "", "al", B),
    "(#a-l:b)": ("flags", "a", "l", B), "(#l-a:b)": ("flags", "l", "a", B), "(#a:)": ("flags", "a", "", EMPTY),
    "(#a:a|b)": ("flags", "a", "", choice(A, B)), "(!a)*": star(("once", A)),
    "(:a)(:b)": row(group("", A), group("", B)),
    # backs and edges
    "&x;": ("back", "x"), "&abcdefgh;": ("back", "abcdefgh"), "&1;": ("back", 1), "&9;": ("back", 9),
    "&1;a": row(("back", 1), A), "@<": ("edge", "start"), "@>": ("edge", "end"), "@^": ("edge", "rowstart"),
    "@$": ("edge", "rowend"), "@/": ("edge", "word"), "@-": ("edge", "inner"),
    "@<a@>": row(("edge", "start"), A, ("edge", "end")),
}


def deep(many, inner="a"):
    return "(" * many + inner + ")" * many


REFUSED = {
    # the document's own
    "a{20,1": 5, "a{15,1}": 6, "(#al-": 4, "[z-\\": 3,
    # marks where nothing may begin with them, and signs that are none
    "*": 0, "+": 0, "?": 0, "{": 0, "{1}": 0, "}": 0, "]": 0, ")": 0, "~": 0, "!": 0, ";": 0, ":": 0, "#": 0, "<": 0,
    ">": 0, "a)": 1, "a~": 1, "a!": 1, "a:": 1, "a|*": 2, "\n": 0, "a\n": 1, "\t": 0, "a\t": 1, "ab\x7f": 2, "a\r": 1,
    "(a))": 3, "a}": 1, "a]": 1, "()~": 2, "a#": 1,
    # times
    "a**": 2, "a*+": 2, "a+{": 2, "a{1}{": 4, "a*~~": 3, "a*!~": 3, "a*~!": 3, "a{1}~*": 5, "a{,": 2, "a{}": 2,
    "a{a": 2, "a{0}": 3, "a{00": 3, "a{01": 3, "a{21": 3, "a{30": 3, "a{100": 4, "a{1 ": 3, "a{-": 2, "a{1,00": 4,
    "a{0,0": 4, "a{2,1}": 5, "a{2,01": 4, "a{3,2}": 5, "a{3,21": 5, "a{5,4": 4, "a{5,30": 4, "a{10,9": 5,
    "a{10,1}": 6, "a{11,10": 6, "a{20,2}": 6, "a{20,21": 6, "a{20,19": 5, "a{1,,": 4, "a{1,2,": 5, "a{19,2}": 6,
    "a{1,}}": 5, "a{9,1}": 5,
    # escapes
    "\\a": 1, "\\ ": 1, "\\^": 1, "\\-": 1, "\\\n": 1, "\\N": 1, "\\1": 1, "\\\t": 1,
    # sets
    "[]": 1, "[^]": 2, "[^^": 2, "[-": 1, "[a^": 2, "[a-]": 3, "[a--": 3, "[a-^": 3, "[a-b-": 4, "[b-a": 3, "[\n": 1,
    "[a\n": 2, "[\t": 1, "[\\a": 2, "[\\.": 2, "[\\[": 2, "[a-\\": 3, "[_-\\": 3, "[^-": 2, "[]-\\": 1, "[a-\\^]": 3,
    "[\\^-\\]": 5, "[\\^-\\\\": 5, "[\\]-\\-": 5, "[A-\\n": 4, "[ -\\n": 4, "[ -\n": 3, "[&-$": 3, "[\\^-\\n": 5,
    "[a]]": 3, "[\\n-\\-x-\\": 8,
    # brackets and their heads
    "(*": 1, "(~": 1, "(;": 1, "(?": 1, "(::": 2, "(a:b:": 4, "(a::": 3, "(A:": 2, "(a1:": 3, "(a|b:": 4, "(a*:": 3,
    "(abcdefghi:": 10, "(\\a": 2, "(!!": 2, "(!~": 2, "(!a:": 3, "(>~~": 3, "(>!": 2, "(<>": 2, "(>a:": 3, "(#:": 2,
    "(#)": 2, "(##": 2, "(#b": 2, "(#la": 3, "(#aa": 3, "(#all": 4, "(#ab": 3, "(#a)": 3, "(#a-a": 4, "(#a-:": 4,
    "(#l-l": 4, "(#l-al": 5, "(#a-la": 5, "(#-:": 3, "(#--": 3, "(#-la": 4, "(#-al-": 5, "(#-all": 5, "(#a-l-": 5,
    "(#al-a": 4, "(a:*": 3,
    # backs and edges
    "&0": 1, "&;": 1, "&A": 1, "&&": 1, "&-": 1, "&12": 2, "&1a": 2, "&a1": 2, "&a:": 2, "&abcdefghi": 9, "& ": 1,
    "&a;;": 3, "@a": 1, "@@": 1, "@|": 1, "@ ": 1, "@\n": 1, "@<<": 2, "@~": 1,
}

# Texts that only end too early.
CUT = [
    "(", "(a", "(a|", "((a)", "(a:", "(:", "(abc", "(!", "(>", "(>~", "(<", "(<~", "(#", "(#a", "(#al", "(#a-", "(#-",
    "(#a:", "(#-a", "(#l-a", "[", "[^", "[a", "[a-", "[a-z", "[\\", "[\\n", "[A-\\", "[\\--\\", "[\\n-\\", "[~-",
    "a{", "a{0", "a{0,", "a{1", "a{2", "a{20", "a{3,", "a{3,1", "a{3,2", "a{15,1", "a{15,2", "a{20,", "a{20,2",
    "a{20,20", "\\", "a\\", "&", "&a", "&abcdefgh", "&1", "@", "a@", "(a)(b", "a{9,1",
]


BEGUN_BRACES = {brace[:end] for brace in BRACES for end in range(1, len(brace) + 1)}
BEGUN_HEADS = {head[:end] for head in FLAG_HEADS for end in range(1, len(head) + 1)}


def begun(text, beginnings):
    """How many signs of a text begin one of some words, of which all beginnings are told."""
    at = 0
    while at < len(text) and text[:at + 1] in beginnings:
        at += 1
    return at


class Reading(unittest.TestCase):
    def assert_refused(self, text, at):
        with self.assertRaises(NoPattern, msg=repr(text)) as caught:
            read_pattern(text)
        self.assertEqual(caught.exception.at, at, repr(text))
        self.assertIsInstance(caught.exception.at, int)

    def assert_read(self, text, tree):
        told = read_pattern(text)
        self.assertEqual(told, tree, repr(text))
        self.assertEqual(repr(told), repr(tree), repr(text))

    def test_what_is_written(self):
        for text, tree in WRITTEN.items():
            self.assert_read(text, tree)
            self.assertNotIn((fault(tree) or ("",))[0], ("form", "deep"), text)

    def test_what_is_refused(self):
        for text, at in REFUSED.items():
            self.assert_refused(text, at)
            self.assert_refused(text + "a)]};" * 3, at)

    def test_what_ends_too_early(self):
        for text in CUT:
            self.assert_refused(text, len(text))

    def test_the_tables_above_by_trying_what_might_follow(self):
        for text, at in REFUSED.items():
            self.assertEqual(refused_at(text), at, repr(text))
        for text in CUT:
            self.assertEqual(refused_at(text), len(text), repr(text))

    def test_each_sign_as_an_atom(self):
        for sign in ORDER:
            if sign in MARKS:
                self.assert_read("\\" + sign, s(sign))
                self.assert_refused("a\\n" + sign + "\n", 4 if sign in "([{|*+?\\.&@" else 3)
            elif sign == "\n":
                self.assert_refused(sign, 0)
                self.assert_refused("\\" + sign, 1)
            else:
                self.assert_read(sign, s(sign))
                if sign != "n":
                    self.assert_refused("\\" + sign, 1)

    def test_each_pair_of_a_set(self):
        for one, low in ONES.items():
            self.assert_read(f"[{one}]", ("set", ((low, low),), False))
            for other, high in ONES.items():
                text = f"[^{one}-{other}]"
                if ORDER.index(high) >= ORDER.index(low):
                    self.assert_read(text, ("set", ((low, high),), True))
                else:
                    # Behind a backslash it goes wrong only if another sign with a backslash would do.
                    might = len(other) == 2 and ORDER.index("^") >= ORDER.index(low)
                    self.assert_refused(text, len(one) + (4 if might else 3))

    def test_all_counts(self):
        self.assertEqual(len(BRACES), 20 + 21 + 20 + sum(range(1, 21)))
        for length in range(1, 7):
            for signs in itertools.product("01259,}" if length < 6 else "012,}", repeat=length):
                text = "{" + "".join(signs)
                at = begun(text, BEGUN_BRACES)
                if text[:at] not in BRACES:
                    self.assert_refused("a" + text, at + 1)
        for brace in BRACES:
            least, _, most = brace[1:-1].partition(",")
            most = least if "," not in brace else most
            tree = ("many", A, int(least), int(most) if most else None, "few")
            self.assert_read("a" + brace + "~", tree)

    def test_all_letters_of_flags(self):
        self.assertEqual(len(FLAG_HEADS), 8)
        for length in range(1, 6):
            for signs in itertools.product("al-:", repeat=length):
                text = "".join(signs)
                at = begun(text, BEGUN_HEADS)
                if text[:at] not in FLAG_HEADS:
                    self.assert_refused("(#" + text, at + 2)

    def test_names(self):
        for many in range(1, 12):
            name = SMALL[:many]
            if many <= 8:
                self.assert_read(f"({name}:a)", group(name))
                self.assert_read(f"&{name};", ("back", name))
            else:
                self.assert_refused(f"({name}:a)", many + 1)
                self.assert_refused(f"&{name};", 9)
            self.assert_read(f"({name})", row(*[s(sign) for sign in name]) if many > 1 else s(name))

    def test_names_count_for_no_items(self):
        self.assert_read("(abc:" + "a" * 100 + ")", group("abc", row(*[A] * 100)))
        self.assert_refused("(abc:" + "a" * 101 + ")", 105)

    def test_a_hundred_items(self):
        for item, tree in (("a", A), ("\\n", s("\n")), (".", ANY), ("a*", star(A)), ("()", EMPTY), ("@<", ("edge",
            "start"))):
            self.assert_read(item * 100, row(*[tree] * 100))
            self.assert_refused(item * 101, len(item) * 100)
            self.assert_read(item * 99 + "|" + item * 100, choice(row(*[tree] * 99), row(*[tree] * 100)))
            self.assert_refused("(" + item * 101, len(item) * 100 + 1)
        for more in ("(", "[", "\\", "&", "@", ".", "a", "~", "\n"):
            self.assert_refused("a" * 100 + more, 100)
        self.assert_read("a" * 100 + "*", row(*[A] * 99, star(A)))
        self.assert_refused("a" * 100 + "*a", 101)
        self.assert_refused("b|" + "a" * 101, 102)

    def test_twenty_options(self):
        self.assert_read("|" * 19, choice(*[EMPTY] * 20))
        self.assert_refused("|" * 20, 19)
        self.assert_refused("a|" * 20 + "a", 39)
        self.assert_read("a" + "|a" * 19, choice(*[A] * 20))
        self.assert_read("(" + "|" * 19 + ")|", choice(choice(*[EMPTY] * 20), EMPTY))
        self.assert_refused("(" + "|" * 20 + ")", 20)
        self.assert_read("(" + "|" * 19 + ")(" + "|" * 19 + ")", row(*[choice(*[EMPTY] * 20)] * 2))

    def test_nine_entries(self):
        for entry, pair in (("a", ("a", "a")), ("a-z", ("a", "z")), ("\\]", ("]", "]")), ("\\n-\\-", ("\n", "-"))):
            for caret in ("", "^"):
                self.assert_read(f"[{caret}{entry * 9}]", ("set", (pair,) * 9, caret == "^"))
                self.assert_refused(f"[{caret}{entry * 10}]", 1 + len(caret) + 9 * len(entry))
                self.assert_refused(f"[{caret}{entry * 9}", 1 + len(caret) + 9 * len(entry))
        self.assert_read("[aaaaaaaaa-b]", ("set", (("a", "a"),) * 8 + (("a", "b"),), False))
        self.assert_refused("[aaaaaaaaa\\", 10)
        self.assert_refused("[aaaaaaaaa-b-", 12)

    def test_eight_brackets_open(self):
        self.assert_read(deep(8), A)
        self.assert_refused(deep(9), 8)
        self.assert_read("(!" * 8 + ")" * 8, nested(8, EMPTY))
        for head in ("(:", "(!", "(>~", "(#a:", "(x:"):
            self.assert_refused(head * 9, len(head) * 8)
            self.assert_refused(head * 8 + "a(", len(head) * 8 + 1)
        self.assert_read("(" * 7 + "()()" + ")" * 7, row(EMPTY, EMPTY))
        self.assert_read("(" * 8 + "\\([(]" + ")" * 8, row(s("("), ("set", (("(", "("),), False)))
        self.assert_read(deep(8) * 3, row(A, A, A))

    def test_length(self):
        longest = "|".join(["a" * 99] * 4)
        self.assertEqual(len(longest), 399)
        self.assertEqual(read_pattern(longest)[0], "choice")
        self.assertEqual(read_pattern(longest + "b")[1][3][1][-1], B)
        for text in (longest + "bb", "*" * 401, "\t" + longest + "b", "a" * 401, "a" * 5000, "(" * 401):
            self.assert_refused(text, 400)
        self.assert_refused("a" * 400, 100)
        self.assert_refused("*" * 400, 0)
        self.assert_refused("|".join(["a" * 99] * 4)[:398] + "(|", 400)

    def test_what_is_no_str(self):
        for thing in no_strings() + [Odd(), ["a"] * 500, ("sign", "a"), [["("]]]:
            self.assert_refused(thing, 0)

    def test_faults_are_not_looked_at(self):
        self.assert_read("()*", star(EMPTY))
        self.assert_read("&zz;(>(:a))", row(("back", "zz"), look(group(""))))
        self.assert_read("(a:)" * 12, row(*[group("a", EMPTY)] * 12))
        self.assert_read("((a{20}){20}){20}", nested(3, A, lambda part: ("many", part, 20, 20, "most")))

    def test_by_chance_against_trying_what_might_follow(self):
        chance = rng(17)
        seen = {True: 0, False: 0}
        for _ in range(500):
            text = damaged(chance)
            try:
                read_pattern(text)
                told = None
            except GlassError as refusal:
                told = refusal.at
            self.assertEqual(told, refused_at(text), repr(text))
            seen[told is None] += 1
        self.assertGreater(min(seen.values()), 100)

    def test_asked_again_also_behind_a_refusal(self):
        texts = list(WRITTEN)
        first = [read_pattern(text) for text in texts]
        for text in CUT:
            with self.assertRaises(NoPattern):
                read_pattern(text)
        self.assertEqual([read_pattern(text) for text in reversed(texts)], first[::-1])


ALPHABETS = (
    "()ab:|", "a{}0123,~", "(#al-:)", "[]^-\\azn~", "&;a19(:", "@<>/-!(", "a*+?~!|()", ORDER + "\t", MARKS + "an",
)
BEGINS = ("", "", "(", "[", "[^", "a{", "a{1", "(#", "&", "(>", "(a")


def damaged(chance):
    """A text that is nearly a written pattern, or signs in any order."""
    if chance.random() < 0.5:
        return chance.choice(BEGINS) + "".join(chance.choices(chance.choice(ALPHABETS), k=chance.randrange(8)))
    text = show_pattern(drawn(chance, 2))[:20]
    for _ in range(chance.randrange(3)):
        at = chance.randrange(len(text) + 1)
        sign = chance.choice(MARKS + "-^a0,n" + chance.choice(ORDER))
        text = text[:at] + chance.choice(["", sign]) + text[at + chance.choice([0, 1]):]
    return text


if __name__ == "__main__":
    unittest.main()
