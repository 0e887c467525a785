"""Desks: rows of words answered, about patterns that have names and one text that is looked at."""

from atomglass.compare import compared
from atomglass.errors import NoName, NoRow, TooMany
from atomglass.finds import finds, pieces
from atomglass.judge import judged
from atomglass.pattern import Pattern
from atomglass.plainer import plainer
from atomglass.reader import read_pattern
from atomglass.signs import is_name, is_text
from atomglass.templates import replaced
from atomglass.writer import show_pattern

MOST_NAMES = 20

# What stands behind the first word of a row, each behind a blank: a name, or all the rest.
ROWS = {
    "let": ("name", "rest"), "on": ("rest",), "drop": ("name",), "names": (),
    "first": ("name",), "all": ("name",), "pieces": ("name",), "fill": ("name", "rest"),
    "alike": ("name", "name"), "judge": ("name",), "plain": ("name",),
}


def things_behind(kinds, blank, rest):
    """What stands behind the first word; blank is "" where not even a blank does."""
    things = []
    for kind in kinds:
        if blank == "":
            raise NoRow()
        if kind == "name":
            thing, blank, rest = rest.partition(" ")
            if not is_name(thing):
                raise NoRow()
        else:
            thing, blank = rest, ""
        things.append(thing)
    if blank != "":
        raise NoRow()
    return things


def words_of(whatever):
    """The first word of a row, and what stands behind it; NoRow where it is no row that a desk answers."""
    if not isinstance(whatever, str):
        raise NoRow()
    word, blank, rest = whatever.partition(" ")
    if word not in ROWS:
        raise NoRow()
    things = things_behind(ROWS[word], blank, rest)
    if word == "on" and not is_text(things[0]):
        raise NoRow()
    return word, things


def side_by_side(texts):
    """The texts with a blank between each two; "none" where there are none."""
    return " ".join(texts) if texts else "none"


def told_ways(pattern, text):
    """The texts of all ways found in a text."""
    return [str(way) for way in finds(pattern, text)]


def told_pieces(pattern, text):
    """How many signs each piece of a text has."""
    return [str(len(piece)) for piece in pieces(pattern, text)]


def told_compared(one, other):
    """How two patterns compare: how many pairs there are, or the text that parts them."""
    word, what = compared(one, other)
    return word + " " + (str(len(what)) if word == "alike" else what)


class Desk:
    """Patterns by their names, in the order in which these were told, and the text that is looked at."""

    def __init__(self):
        self.known = {}
        self.text = ""

    def say(self, whatever):
        """The answer to a row of words."""
        word, things = words_of(whatever)
        if word == "names":
            return side_by_side(list(self.known))
        if word == "on":
            self.text = things[0]
            return "ok"
        if word == "let":
            return self.let(things[0], things[1])
        if word == "alike":
            return told_compared(self.named(things[0]), self.named(things[1]))
        pattern = self.named(things[0])
        if word == "drop":
            del self.known[things[0]]
            return "ok"
        if word == "fill":
            return replaced(pattern, self.text, things[1])
        return self.answer(word, pattern)

    def let(self, name, written):
        """Lets a name stand for a pattern."""
        pattern = Pattern(read_pattern(written))
        if name not in self.known and len(self.known) == MOST_NAMES:
            raise TooMany(MOST_NAMES)
        self.known[name] = pattern
        return "ok"

    def named(self, name):
        """The pattern that a name stands for."""
        if name not in self.known:
            raise NoName(name)
        return self.known[name]

    def answer(self, word, pattern):
        """The answer to a word that asks of one pattern alone."""
        if word == "first":
            # All are looked for, though only one is told: where that is refused, so is this.
            return side_by_side(told_ways(pattern, self.text)[:1])
        if word == "all":
            return side_by_side(told_ways(pattern, self.text))
        if word == "pieces":
            return side_by_side(told_pieces(pattern, self.text))
        if word == "judge":
            return judged(pattern)[0]
        return show_pattern(plainer(pattern.tree))
