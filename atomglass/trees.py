"""Trees: the bounds of their things, their parts, their groups, and whether they may go on without a sign."""

MOST_SET_PAIRS = 9
MOST_IN_ROW = 100
MOST_IN_CHOICE = 20
MOST_TIMES = 20
MOST_GROUPS = 9

# Where the one part of a tree stands in its tuple.
PART_AT = {"many": 1, "group": 2, "once": 1, "look": 2, "flags": 3}


def parts_of(tree):
    """The parts of a tree, in their order."""
    word = tree[0]
    if word in ("row", "choice"):
        return tree[1]
    if word in PART_AT:
        return (tree[PART_AT[word]],)
    return ()


def group_names(tree):
    """The names of its groups, in the order in which they are gone through; "" for those without."""
    names = [tree[1]] if tree[0] == "group" else []
    for part in parts_of(tree):
        names.extend(group_names(part))
    return names


def idle(tree):
    """Whether it may go on without a sign, by its form alone."""
    word = tree[0]
    if word in ("sign", "any", "set"):
        return False
    if word in ("look", "back", "edge"):
        return True
    idle_parts = [idle(part) for part in parts_of(tree)]
    if word == "choice":
        return any(idle_parts)
    if word == "many" and tree[2] == 0:
        return True
    return all(idle_parts)
