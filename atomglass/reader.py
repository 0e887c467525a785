"""Patterns written as texts: the tree that a text writes, or the place at which it goes wrong.

Each function that reads begins at a place of the text and tells what it read and the place behind it. It never looks
at a sign before all signs ahead of it are known to begin some written pattern: so the place at which it is refused is
the least one of those that the document tells.
"""

from atomglass.errors import NoPattern
from atomglass.signs import MOST_LETTERS, MOST_SIGNS, SMALL_LETTERS, is_sign, rank
from atomglass.trees import MOST_GROUPS, MOST_IN_CHOICE, MOST_IN_ROW, MOST_SET_PAIRS, MOST_TIMES

MARKS = "()[]{}|*+?~!.\\&;@:#<>"
SET_MARKS = "]\\^-"
SET_ESCAPES = {"\\]": "]", "\\\\": "\\", "\\^": "^", "\\-": "-", "\\n": "\n"}
MOST_BRACKETS = 8

# The marks by which an atom begins.
ATOM_MARKS = "\\.[(&@"
TIMES = {"*": (0, None), "+": (1, None), "?": (0, 1)}
MOODS = {"~": "few", "!": "once"}
EDGES = {"<": "start", ">": "end", "^": "rowstart", "$": "rowend", "/": "word", "-": "inner"}
# Each way of writing the letters of flags, with the sign behind them.
FLAG_HEADS = ("a:", "l:", "al:", "a-l:", "l-a:", "-a:", "-l:", "-al:")


def sign_at(text, at):
    """The sign at a place, or "" behind the last one."""
    return text[at:at + 1]


def is_plain(sign):
    """Whether it stands for itself as an atom."""
    return is_sign(sign) and sign not in MARKS and sign != "\n"


def end_of_letters(text, at):
    """The place behind the small letters that begin here, no more of them than a name has."""
    end = at
    while end < len(text) and end < at + MOST_LETTERS and text[end] in SMALL_LETTERS:
        end += 1
    return end


def skip(text, at, sign):
    """The place behind a sign that has to stand here."""
    if sign_at(text, at) != sign:
        raise NoPattern(at)
    return at + 1


def read_word(text, at, words):
    """The one of some words that stands here; none of them begins another one."""
    end = at
    while text[at:end] not in words:
        longer = text[at:end + 1]
        if end == len(text) or not any([word.startswith(longer) for word in words]):
            raise NoPattern(end)
        end += 1
    return text[at:end], end


def read_counts(text, at):
    """How often at least and at most, of what stands behind "{"."""
    alone = [str(count) + "}" for count in range(1, MOST_TIMES + 1)]
    first = [str(count) + "," for count in range(MOST_TIMES + 1)]
    word, at = read_word(text, at, alone + first)
    least = int(word[:-1])
    if word in alone:
        return (least, least), at
    second = [str(count) + "}" for count in range(max(1, least), MOST_TIMES + 1)]
    word, at = read_word(text, at, second + ["}"])
    most = None if word == "}" else int(word[:-1])
    return (least, most), at


def read_mood(text, at):
    """The mood of a many, of what stands behind its times."""
    sign = sign_at(text, at)
    if sign in MOODS:
        return MOODS[sign], at + 1
    return "most", at


def read_escaped(text, at):
    """The sign that stands behind a backslash as an atom."""
    sign = sign_at(text, at)
    if sign == "n":
        return ("sign", "\n"), at + 1
    if sign == "" or sign not in MARKS:
        raise NoPattern(at)
    return ("sign", sign), at + 1


def read_one(text, at, least):
    """A sign of an entry, of a rank no less than least."""
    sign = sign_at(text, at)
    if sign == "\\":
        words = [word for word in SET_ESCAPES if rank(SET_ESCAPES[word]) >= least]
        word, at = read_word(text, at, words)
        return SET_ESCAPES[word], at
    if not is_sign(sign) or sign == "\n" or sign in SET_MARKS or rank(sign) < least:
        raise NoPattern(at)
    return sign, at + 1


def read_entry(text, at):
    """A pair of a set."""
    low, at = read_one(text, at, 0)
    if sign_at(text, at) != "-":
        return (low, low), at
    high, at = read_one(text, at + 1, rank(low))
    return (low, high), at


def read_set(text, at):
    """A set, of what stands behind "["."""
    others = sign_at(text, at) == "^"
    if others:
        at += 1
    pair, at = read_entry(text, at)
    pairs = [pair]
    while len(pairs) < MOST_SET_PAIRS and sign_at(text, at) != "]":
        pair, at = read_entry(text, at)
        pairs.append(pair)
    return ("set", tuple(pairs), others), skip(text, at, "]")


def read_back(text, at):
    """A back, of what stands behind "&"."""
    figures = [str(number) for number in range(1, MOST_GROUPS + 1)]
    if sign_at(text, at) in figures:
        return ("back", int(text[at])), skip(text, at + 1, ";")
    end = end_of_letters(text, at)
    if end == at:
        raise NoPattern(at)
    return ("back", text[at:end]), skip(text, end, ";")


def read_edge(text, at):
    """An edge, of what stands behind "@"."""
    sign = sign_at(text, at)
    if sign not in EDGES:
        raise NoPattern(at)
    return ("edge", EDGES[sign]), at + 1


def read_head(text, at):
    """What a tree has ahead of its part, of what stands behind "("; () where the bracket stands for its part alone."""
    sign = sign_at(text, at)
    if sign == "!":
        return ("once",), at + 1
    if sign == ">" or sign == "<":
        way = "ahead" if sign == ">" else "behind"
        if sign_at(text, at + 1) == "~":
            return ("look", "no" + way), at + 2
        return ("look", way), at + 1
    if sign == "#":
        letters, at = read_word(text, at + 1, FLAG_HEADS)
        on, stroke, off = letters[:-1].partition("-")
        return ("flags", on, off), at
    # Small letters may begin a name or an option; both go on alike till the sign behind them.
    end = end_of_letters(text, at)
    if sign_at(text, end) == ":":
        return ("group", text[at:end]), end + 1
    return (), at


def read_bracket(text, at, depth):
    """The tree of a bracket, of what stands behind "("; depth brackets are open, this one too."""
    head, at = read_head(text, at)
    part, at = read_choice(text, at, depth)
    at = skip(text, at, ")")
    if head == ():
        return part, at
    return head + (part,), at


def begins_atom(text, at, depth):
    """Whether the sign here begins an atom, where depth brackets are open."""
    sign = sign_at(text, at)
    if sign == "(":
        return depth < MOST_BRACKETS
    return is_plain(sign) or (sign != "" and sign in ATOM_MARKS)


def read_atom(text, at, depth):
    """The tree of an atom that begins here."""
    sign = text[at]
    if sign == "\\":
        return read_escaped(text, at + 1)
    if sign == ".":
        return ("any",), at + 1
    if sign == "[":
        return read_set(text, at + 1)
    if sign == "(":
        return read_bracket(text, at + 1, depth + 1)
    if sign == "&":
        return read_back(text, at + 1)
    if sign == "@":
        return read_edge(text, at + 1)
    return ("sign", sign), at + 1


def read_item(text, at, depth):
    """The tree of an atom that begins here, and of its times."""
    part, at = read_atom(text, at, depth)
    sign = sign_at(text, at)
    if sign in TIMES:
        (least, most), at = TIMES[sign], at + 1
    elif sign == "{":
        (least, most), at = read_counts(text, at + 1)
    else:
        return part, at
    mood, at = read_mood(text, at)
    return ("many", part, least, most, mood), at


def read_option(text, at, depth):
    """The tree of an option; it ends where no further item may begin."""
    items = []
    while len(items) < MOST_IN_ROW and begins_atom(text, at, depth):
        item, at = read_item(text, at, depth)
        items.append(item)
    if len(items) == 1:
        return items[0], at
    return ("row", tuple(items)), at


def read_choice(text, at, depth):
    """The tree of a choice; it ends where no further item or option may begin."""
    option, at = read_option(text, at, depth)
    options = [option]
    while len(options) < MOST_IN_CHOICE and sign_at(text, at) == "|":
        option, at = read_option(text, at + 1, depth)
        options.append(option)
    if len(options) == 1:
        return options[0], at
    return ("choice", tuple(options)), at


def read_pattern(whatever):
    """The tree that a text writes; NoPattern where it is no written pattern."""
    if not isinstance(whatever, str):
        raise NoPattern(0)
    if len(whatever) > MOST_SIGNS:
        raise NoPattern(MOST_SIGNS)
    tree, at = read_choice(whatever, 0, 0)
    if at < len(whatever):
        raise NoPattern(at)
    return tree
