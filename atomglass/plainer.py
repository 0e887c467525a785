"""Trees made plainer: what does not change the first way is laid flat, put together or left out."""

from atomglass.faults import check_tree
from atomglass.sets import joined
from atomglass.trees import MOST_IN_CHOICE, MOST_IN_ROW, MOST_SET_PAIRS, group_names

EMPTY_ROW = ("row", ())
# What comes to its end by one route at most needs no once around it.
SINGLE_ROUTE = ("sign", "any", "set", "edge", "back", "look", "once")


def laid_flat(parts, word, most):
    """The parts, with those of this word laid flat as far as there are no more than most parts then."""
    many = len(parts)
    told = []
    for part in parts:
        if part[0] == word and many - 1 + len(part[1]) <= most:
            many += len(part[1]) - 1
            told.extend(part[1])
        else:
            told.append(part)
    return told


def without_doubles(parts):
    """The parts of a choice without those that only try again what one ahead of them has tried."""
    told = []
    for part in parts:
        if part not in told or group_names(part):
            told.append(part)
    return told


def held_alone(tree):
    """The rows of signs of a sign, or of a set with others False; () for what is neither."""
    if tree[0] == "sign":
        return ((tree[1], tree[1]),)
    if tree[0] == "set" and not tree[2]:
        return tree[1]
    return ()


def held_together(one, other):
    """The rows of signs of two neighbours in a choice that may be one set; () where they may not."""
    ones, others = held_alone(one), held_alone(other)
    if not ones or not others:
        return ()
    together = joined(ones, others)
    return together if len(together) <= MOST_SET_PAIRS else ()


def neighbours_joined(parts):
    """The parts of a choice, with signs and sets that stand side by side put together."""
    told = parts[:1]
    for part in parts[1:]:
        together = held_together(told[-1], part)
        if together:
            told[-1] = ("set", together, False)
        else:
            told.append(part)
    return told


def plain_row(parts):
    """The tree of a row of plain parts."""
    told = laid_flat([part for part in parts if part != EMPTY_ROW], "row", MOST_IN_ROW)
    return told[0] if len(told) == 1 else ("row", tuple(told))


def plain_choice(parts):
    """The tree of a choice of plain parts; where it gets fewer parts, more may be laid flat or put together."""
    told = []
    fewer = parts
    while told != fewer:
        told = fewer
        fewer = neighbours_joined(without_doubles(laid_flat(told, "choice", MOST_IN_CHOICE)))
    return told[0] if len(told) == 1 else ("choice", tuple(told))


def plain_once(part):
    """The tree of a once of a plain part."""
    if part[0] in SINGLE_ROUTE or (part[0] == "many" and part[4] == "once"):
        return part
    return ("once", part)


def plain_many(part, least, most, mood):
    """The tree of a many of a plain part."""
    if least != 1 or most != 1:
        return ("many", part, least, most, mood)
    return plain_once(part) if mood == "once" else part


def made_plain(tree):
    """The tree made plainer, its parts first: what becomes of a tree hangs on what its parts have become."""
    word = tree[0]
    if word == "row":
        return plain_row([made_plain(part) for part in tree[1]])
    if word == "choice":
        return plain_choice([made_plain(part) for part in tree[1]])
    if word == "many":
        return plain_many(made_plain(tree[1]), tree[2], tree[3], tree[4])
    if word == "once":
        return plain_once(made_plain(tree[1]))
    if word in ("group", "look", "flags"):
        return tree[:-1] + (made_plain(tree[-1]),)
    return tree


def plainer(tree):
    """A plainer tree with the same groups and the same first ways; Bad where the tree has a fault."""
    check_tree(tree)
    return made_plain(tree)
