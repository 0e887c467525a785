"""What promise 35 tells of the form of a tree that was made plainer, said of each tree in it; and trees to try it on."""

from atomglass.faults import fault
from tests.some_trees import A, ANY, B, EMPTY, LETTERS, parts
from tests.things import ORDER

C = ("sign", "c")
NO_ONCE = ["sign", "any", "set", "edge", "back", "look", "once"]


def numbers_held(tree):
    """The ranks of what a sign, or a set with others False, holds; None for other trees."""
    if tree[0] == "sign":
        return {ORDER.index(tree[1])}
    if tree[0] == "set" and tree[2] is False:
        return {number for low, high in tree[1] for number in range(ORDER.index(low), ORDER.index(high) + 1)}
    return None


def how_many_pairs(numbers):
    """How many pairs the settled rows of these ranks have: as many as there are first ones."""
    return len([number for number in numbers if number - 1 not in numbers])


def has_groups(tree):
    return tree[0] == "group" or any(has_groups(part) for part in parts(tree))


def faults_of_form(tree):
    """The list of all that promise 35 bars, in the whole tree."""
    told = [fault for part in parts(tree) for fault in faults_of_form(part)]
    inner = parts(tree)
    word = tree[0]
    bound = {"row": 100, "choice": 20}.get(word)
    for part in inner:
        if bound and part[0] == word and len(inner) - 1 + len(part[1]) <= bound:
            told.append(("not flat", tree))
        if word == "row" and part == EMPTY:
            told.append(("empty row", tree))
    if word == "choice":
        told += faults_of_choice(inner)
    if word == "many" and tree[2:4] == (1, 1):
        told.append(("once alone", tree))
    if word == "once" and (tree[1][0] in NO_ONCE or tree[1][0] == "many" and tree[1][4] == "once"):
        told.append(("needless once", tree))
    return told


def faults_of_choice(inner):
    told = [("double", part) for at, part in enumerate(inner) if part in inner[:at] and not has_groups(part)]
    for one, other in zip(inner, inner[1:]):
        ones, others = numbers_held(one), numbers_held(other)
        if ones is not None and others is not None and how_many_pairs(ones | others) <= 9:
            told.append(("neighbours", one, other))
    return told


LEAVES = [A, A, B, C, ANY, EMPTY, EMPTY, ("set", (("a", "b"),), False), ("set", (("b", "c"), ("a", "a")), False),
          ("set", (("a", "a"),), True), ("edge", "start"), ("edge", "rowend"), ("edge", "word"), ("back", 1), ("sign", "A")]
INNER = ["row", "row", "choice", "choice", "choice", "many", "many", "once", "once", "group", "look", "flags"]


def tangled(chance, depth):
    """A tree drawn by chance, such that much of it may be made plainer; it may have a fault."""
    if depth == 0 or chance.random() < 0.15:
        return chance.choice(LEAVES)
    word = chance.choice(INNER)
    if word in ("row", "choice"):
        inner = [tangled(chance, depth - 1) for _ in range(chance.choice([2, 2, 3]))]
        if chance.random() < 0.4:
            inner.insert(chance.randrange(len(inner)), chance.choice(inner))
        return (word, tuple(inner))
    part = tangled(chance, depth - 1)
    if word == "many":
        least, most = chance.choice([(1, 1), (1, 1), (1, 1), (0, 1), (0, None), (1, None), (1, 2), (2, 2)])
        return ("many", part, least, most, chance.choice(["most", "few", "once"]))
    if word == "group":
        return ("group", "", part)
    if word == "look":
        return ("look", chance.choice(["ahead", "behind", "noahead", "nobehind"]), part)
    if word == "flags":
        return ("flags", *chance.choice(LETTERS), part)
    return ("once", part)


def tangled_trees(chance, many, depths=(2, 3, 4)):
    """So many trees without a fault, drawn by chance."""
    drawn = []
    while len(drawn) < many:
        tree = tangled(chance, chance.choice(depths))
        if fault(tree) is None:
            drawn.append(tree)
    return drawn
