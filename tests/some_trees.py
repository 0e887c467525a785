"""Trees for tests: one of each word, trees drawn by chance, and what the document tells of them said another way."""

from tests.things import ORDER

A = ("sign", "a")
B = ("sign", "b")
EMPTY = ("row", ())
ANY = ("any",)


def star(part):
    return ("many", part, 0, None, "most")


def group(name, part=A):
    return ("group", name, part)


def row(*parts):
    return ("row", parts)


def choice(*parts):
    return ("choice", parts)


def look(part, way="ahead"):
    return ("look", way, part)


# One tree of each word, and of each kind that the word has; none has a fault by itself.
SINGLES = [
    A, ("sign", "\n"), ("sign", "("), ANY, ("set", (("a", "z"),), False), ("set", (("b", "b"), ("\n", " ")), True),
    EMPTY, row(A, B), choice(A, EMPTY), star(A), ("many", A, 0, 1, "few"), ("many", A, 2, 2, "once"),
    ("many", A, 20, 20, "most"), ("many", A, 3, None, "few"), ("many", A, 0, 20, "once"), group(""), group("year"),
    ("once", A), look(A), look(A, "behind"), look(A, "noahead"), look(A, "nobehind"), ("flags", "a", "", A),
    ("flags", "", "l", A), ("flags", "al", "", A), ("flags", "", "al", A), ("flags", "a", "l", A),
    ("flags", "l", "a", A), ("edge", "start"), ("edge", "end"), ("edge", "rowstart"), ("edge", "rowend"),
    ("edge", "word"), ("edge", "inner"),
]

# A tree in which every word stands, without a fault.
WHOLE = row(
    ("sign", "x"), ANY, ("set", (("a", "f"), ("0", "9")), True),
    choice(A, EMPTY, row(B, ("edge", "word"))),
    ("many", group("year", ("set", (("0", "9"),), False)), 2, 4, "few"),
    ("once", star(B)), look(row(A, B), "nobehind"), ("flags", "a", "l", group("")),
    ("back", "year"), ("back", 2), ("edge", "end"),
)


def parts(tree):
    """The parts of a tree whose form is right."""
    if tree[0] in ("row", "choice"):
        return list(tree[1])
    places = {"many": 1, "group": 2, "once": 1, "look": 2, "flags": 3}
    return [tree[places[tree[0]]]] if tree[0] in places else []


def nested(levels, inner=A, wrap=lambda part: ("once", part)):
    """A tree that lies so many levels within others."""
    tree = inner
    for _ in range(levels):
        tree = wrap(tree)
    return tree


def drawn(chance, depth, names=("", "a", "bc", "year")):
    """A tree of right form, drawn by chance, no deeper than told."""
    word = chance.choice(LEAVES if depth == 0 else LEAVES + INNER * 2)
    if word in ("row", "choice"):
        many = chance.choice([0, 2, 2, 3] if word == "row" else [2, 2, 3])
        return (word, tuple(drawn(chance, depth - 1, names) for _ in range(many)))
    if word in INNER:
        part = drawn(chance, depth - 1, names)
    if word == "many":
        least = chance.choice([0, 0, 1, 2, 9, 15, 20])
        most = chance.choice([None, None, max(1, least), min(20, least + 1), 20])
        return ("many", part, least, most, chance.choice(["most", "few", "once"]))
    if word == "group":
        return ("group", chance.choice(names), part)
    if word == "once":
        return ("once", part)
    if word == "look":
        return ("look", chance.choice(["ahead", "behind", "noahead", "nobehind"]), part)
    if word == "flags":
        return ("flags", *chance.choice(LETTERS), part)
    return leaf(chance, word, names)


LETTERS = [("a", ""), ("l", ""), ("al", ""), ("", "a"), ("", "l"), ("", "al"), ("a", "l"), ("l", "a")]
LEAVES = ["sign", "sign", "any", "set", "back", "edge"]
INNER = ["row", "choice", "many", "group", "once", "look", "flags"]


def leaf(chance, word, names):
    if word == "sign":
        return ("sign", chance.choice(ORDER))
    if word == "set":
        pairs = []
        for _ in range(chance.choice([1, 1, 2, 3, 9])):
            low, high = sorted([chance.randrange(95), chance.randrange(95)])
            pairs.append((ORDER[low], ORDER[chance.choice([low, high])]))
        return ("set", tuple(pairs), chance.choice([True, False]))
    if word == "back":
        return ("back", chance.choice([*filter(None, names), 1, 2, 9]))
    if word == "edge":
        return ("edge", chance.choice(["start", "end", "rowstart", "rowend", "word", "inner"]))
    return ("any",)
