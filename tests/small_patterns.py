"""Small patterns and texts: few signs, so that routes meet and patterns take something."""

import itertools

from atomglass.faults import fault
from atomglass.pattern import Pattern
from atomglass.reader import read_pattern
from tests.some_trees import LETTERS

PLAIN = ["row", "row", "choice", "choice", "many", "many", "group"]
FREE = PLAIN + ["once", "look", "flags"]
LEAVES = ["sign", "sign", "sign", "any", "set"]

# Patterns that are not plain, with the word of the first row that isn't.
UNFIT = [
    ("(!a)", "once"), ("a*!", "once"), ("a{2}!", "once"), ("(>a)", "look"), ("(<~a)", "look"), ("@<", "edge"),
    ("a@/", "edge"), ("(x:a)&x;", "back"), ("(:a)(#a:&1;)", "back"), ("@<(!a)", "edge"), ("(!@<)", "once"),
    ("(>@<)", "look"), ("(:a)&1;(!a)", "back"), ("a|b|(c|d*(>e))", "look"), ("(:ab)(@>|&1;)", "edge"),
    ("(#a:(x:a|b*))(!a)(>b)", "once"), ("a*(b|(!c)|@<)", "once"),
]


def made(text):
    """The pattern that a text writes."""
    return Pattern(read_pattern(text))


def plain_ways(ways):
    """What ways have, as tuples (end, spans, choices): to be like in their choices, too."""
    return [(way.end, way.spans, way.choices) for way in ways]


def texts_over(signs, longest):
    """All texts over some signs, up to a length, the shorter ones first."""
    for length in range(longest + 1):
        for some in itertools.product(signs, repeat=length):
            yield "".join(some)


def small_leaf(chance, words, signs):
    word = chance.choice(LEAVES + (["edge"] if "edge" in words else []) + (["back", "back"] if "back" in words else []))
    if word == "sign":
        return ("sign", chance.choice(signs))
    if word == "set":
        pairs = tuple((sign, sign) for sign in chance.choices(signs, k=chance.choice([1, 2])))
        return ("set", pairs, chance.choice([True, False]))
    if word == "back":
        return ("back", chance.choice([1, 1, 2]))
    if word == "edge":
        return ("edge", chance.choice(["start", "end", "rowstart", "rowend", "word", "inner"]))
    return ("any",)


def small_tree(chance, depth, words, signs="ab"):
    """A tree drawn by chance, of these words; it may have a fault."""
    if depth == 0 or chance.random() < 0.12:
        return small_leaf(chance, words, signs)
    word = chance.choice([word for word in words if word not in ("edge", "back")])
    if word in ("row", "choice"):
        size = chance.choice([2, 2, 3]) if word == "choice" or chance.random() < 0.9 else 0
        return (word, tuple(small_tree(chance, depth - 1, words, signs) for _ in range(size)))
    part = small_tree(chance, depth - 1, words, signs)
    if word == "many":
        least, most = chance.choice([(0, None), (0, None), (1, None), (0, 1), (0, 2), (1, 2), (2, 2), (2, None)])
        return ("many", part, least, most, chance.choice(["most", "most", "few"] + ["once"] * ("once" in words)))
    if word == "group":
        return ("group", "", part)
    if word == "look":
        return ("look", chance.choice(["ahead", "behind", "noahead", "nobehind"]), part)
    if word == "flags":
        return ("flags", *chance.choice(LETTERS), part)
    return ("once", part)


def small_patterns(chance, many, words, signs="ab", depths=(2, 3, 3, 4), most_rows=60):
    """So many patterns without a fault, drawn by chance."""
    drawn = []
    while len(drawn) < many:
        tree = small_tree(chance, chance.choice(depths), words, signs)
        if fault(tree) is None:
            pattern = Pattern(tree)
            if len(pattern.code()) <= most_rows:
                drawn.append(pattern)
    return drawn
