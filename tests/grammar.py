"""Promise 15 said another way: which texts are written patterns, found by trying every rule at every place.

Each rule tells the set of all places at which something that it allows may end. Nothing here knows where a text goes
wrong: that is found by trying what might still follow.
"""

from tests.things import FIGURES, ORDER, SMALL

MARKS = "()[]{}|*+?~!.\\&;@:#<>"
COUNTS = [str(number) for number in range(21)]
LETTERS = ["a", "l", "al"]
FLAG_HEADS = [f"{on}:" for on in LETTERS] + [
    f"{on}-{off}:" for on in ["", *LETTERS] for off in LETTERS if not set(on) & set(off)
]
BRACES = (
    [f"{{{m}}}" for m in COUNTS[1:]] + [f"{{{m},}}" for m in COUNTS]
    + [f"{{{m},{n}}}" for m in COUNTS for n in COUNTS if int(n) >= max(1, int(m))]
)
TIMES = {times + mood for times in ["*", "+", "?", *BRACES] for mood in ("", "~", "!")}
LONGEST_TIMES = len("{10,20}~")
ONES = {sign: sign for sign in ORDER if sign not in "\n]\\^-"}
ONES.update({"\\" + sign: sign for sign in "]\\^-"})
ONES["\\n"] = "\n"


class Grammar:
    """The rules over one text."""

    def __init__(self, text):
        self.text = text
        self.known = {}

    def words(self, at, words):
        return {at + len(word) for word in words if self.text.startswith(word, at)}

    def ends(self, rule, at, depth):
        key = (rule, at, depth)
        if key not in self.known:
            self.known[key] = getattr(self, rule)(at, depth)
        return self.known[key]

    def repeated(self, rule, at, depth, most, between=""):
        """The ends of up to most things of a rule, for each number of them."""
        rounds = [{at}]
        while len(rounds) <= most:
            begins = rounds[-1]
            if between and len(rounds) > 1:
                begins = set().union(*[self.words(place, [between]) for place in begins])
            after = set().union(*[self.ends(rule, place, depth) for place in begins])
            if not after:
                break
            rounds.append(after)
        return rounds

    def choice(self, at, depth):
        return set().union(*self.repeated("option", at, depth, 20, between="|")[1:])

    def option(self, at, depth):
        return set().union(*self.repeated("item", at, depth, 100))

    def item(self, at, depth):
        ends = self.ends("atom", at, depth)
        return ends.union(*[self.times(place) for place in ends])

    def times(self, at):
        last = min(at + LONGEST_TIMES, len(self.text))
        return {end for end in range(at + 1, last + 1) if self.text[at:end] in TIMES}

    def atom(self, at, depth):
        sign = self.text[at:at + 1]
        if sign in ORDER[1:] and sign != "" and sign not in MARKS:
            return {at + 1}
        ends = self.words(at, ["\\" + mark for mark in MARKS] + ["\\n", "."])
        ends |= self.words(at, ["@" + kind for kind in "<>^$/-"])
        ends |= self.words(at, [f"&{figure};" for figure in FIGURES[1:]])
        ends |= self.sets(at) | self.backs(at)
        if depth < 8:
            ends |= self.brackets(at, depth + 1)
        return ends

    def sets(self, at):
        begins = self.words(at, ["[", "[^"])
        rounds = [self.repeated("entry", place, 0, 9)[1:] for place in begins]
        ends = set().union(*[one for many in rounds for one in many])
        return set().union(*[self.words(place, ["]"]) for place in ends])

    def entry(self, at, depth):
        ends = set()
        for low in ONES:
            if self.text.startswith(low, at):
                ends.add(at + len(low))
                highs = [f"{low}-{high}" for high in ONES if ORDER.index(ONES[high]) >= ORDER.index(ONES[low])]
                ends |= self.words(at, highs)
        return ends

    def names(self, at):
        ends = set()
        for end in range(at + 1, min(at + 8, len(self.text)) + 1):
            if self.text[end - 1] not in SMALL:
                break
            ends.add(end)
        return ends

    def backs(self, at):
        ends = [self.words(place, [";"]) for begin in self.words(at, ["&"]) for place in self.names(begin)]
        return set().union(*ends)

    def brackets(self, at, depth):
        begins = self.words(at, ["("])
        heads = self.words(at, ["(", "(:", "(!", "(>", "(>~", "(<", "(<~", *["(#" + head for head in FLAG_HEADS]])
        for begin in begins:
            heads = heads.union(*[self.words(place, [":"]) for place in self.names(begin)])
        ends = set().union(*[self.ends("choice", place, depth) for place in heads])
        return set().union(*[self.words(place, [")"]) for place in ends])


def is_written(text):
    """Whether a text, of whatever length, is a written pattern."""
    return len(text) in Grammar(text).choice(0, 0)


# What may still be missing of the atom, the times or the bracket's head that a text ends in.
MISSING = (
    ["", "]", "~]", "n]", "^]", "]]", "\\]", "-]", "n", "1}", "}", ",}"] + [figure + "}" for figure in FIGURES]
    + ["a;", ";", "<", ":", "a:", "l:", "-a:", "-l:"]
)


def may_go_on(text):
    """Whether some written pattern begins with this text."""
    for missing in MISSING:
        for brackets in range(min(8, text.count("(")), -1, -1):
            if is_written(text + missing + ")" * brackets):
                return True
    return False


def refused_at(text):
    """The place at which a text is refused, None where it is a written pattern."""
    if is_written(text):
        return None
    for at in range(len(text)):
        if not may_go_on(text[:at + 1]):
            return at
    return len(text)
