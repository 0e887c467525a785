"""The first fault of whatever is handed in as a tree."""

from atomglass.errors import Bad
from atomglass.signs import is_name, is_sign, is_whole, rank
from atomglass.trees import (
    MOST_GROUPS, MOST_IN_CHOICE, MOST_IN_ROW, MOST_SET_PAIRS, MOST_TIMES, group_names, idle, parts_of,
)

LONGEST_PATH = 39
MOST_ROWS = 300

MOODS = ("most", "few", "once")
WAYS = ("ahead", "behind", "noahead", "nobehind")
LETTERS = ("", "a", "l", "al")
KINDS = ("start", "end", "rowstart", "rowend", "word", "inner")

# How many things a tree of each word has, its word counted.
SIZES = {
    "sign": 2, "any": 1, "set": 3, "row": 2, "choice": 2, "many": 5,
    "group": 3, "once": 2, "look": 3, "flags": 4, "back": 2, "edge": 2,
}


def is_within(whatever, least, most):
    """Whether it is a whole number from least to most."""
    return is_whole(whatever) and least <= whatever <= most


def is_one_of(whatever, texts):
    """Whether it is one of some texts."""
    return isinstance(whatever, str) and whatever in texts


def is_pair(whatever):
    """Whether it is a pair of signs, the first one's rank no greater than the second one's."""
    if not isinstance(whatever, tuple) or len(whatever) != 2:
        return False
    low, high = whatever
    return is_sign(low) and is_sign(high) and rank(low) <= rank(high)


def sign_fits(tree):
    """A sign stands behind the word."""
    return is_sign(tree[1])


def set_fits(tree):
    """Rows of one to nine pairs, and a truth."""
    pairs, others = tree[1], tree[2]
    if not isinstance(pairs, tuple) or not 1 <= len(pairs) <= MOST_SET_PAIRS:
        return False
    return all([is_pair(pair) for pair in pairs]) and isinstance(others, bool)


def row_fits(tree):
    """A tuple of no part, or of two and more; one part alone would be just that part."""
    parts = tree[1]
    return isinstance(parts, tuple) and (not parts or 2 <= len(parts) <= MOST_IN_ROW)


def choice_fits(tree):
    """A tuple of two parts and more."""
    parts = tree[1]
    return isinstance(parts, tuple) and 2 <= len(parts) <= MOST_IN_CHOICE


def many_fits(tree):
    """How often at least, how often at most, and the mood."""
    least, most, mood = tree[2], tree[3], tree[4]
    if not is_within(least, 0, MOST_TIMES) or not is_one_of(mood, MOODS):
        return False
    return most is None or is_within(most, max(1, least), MOST_TIMES)


def group_fits(tree):
    """A name, or "" for none."""
    return is_one_of(tree[1], ("",)) or is_name(tree[1])


def look_fits(tree):
    """The way of looking."""
    return is_one_of(tree[1], WAYS)


def flags_fits(tree):
    """The letters on and off, some letter at all, none of them on both sides."""
    on, off = tree[1], tree[2]
    if not is_one_of(on, LETTERS) or not is_one_of(off, LETTERS):
        return False
    return on + off != "" and not any([letter in off for letter in on])


def back_fits(tree):
    """A group's name or number."""
    return is_name(tree[1]) or is_within(tree[1], 1, MOST_GROUPS)


def edge_fits(tree):
    """The kind of edge."""
    return is_one_of(tree[1], KINDS)


# In an any and a once nothing but trees stands behind the word.
CHECKS = {
    "sign": sign_fits, "set": set_fits, "row": row_fits, "choice": choice_fits, "many": many_fits,
    "group": group_fits, "look": look_fits, "flags": flags_fits, "back": back_fits, "edge": edge_fits,
}


def fits(whatever):
    """Whether it is a tree, as far as its parts are not looked at."""
    if not isinstance(whatever, tuple) or len(whatever) == 0:
        return False
    word = whatever[0]
    if not isinstance(word, str) or SIZES.get(word) != len(whatever):
        return False
    if word not in CHECKS:
        return True
    check = CHECKS[word]
    return check(whatever)


def form_fault(whatever, path):
    """The first "form" or "deep" from this path on, or None."""
    if len(path) > LONGEST_PATH:
        return ("deep", path)
    if not fits(whatever):
        return ("form", path)
    for number, part in enumerate(parts_of(whatever)):
        found = form_fault(part, path + (number,))
        if found is not None:
            return found
    return None


def gone_through(tree, path, in_look):
    """All trees from this one on, in their order: tuples of the path, the tree, whether it lies within a look."""
    rows = [(path, tree, in_look)]
    for number, part in enumerate(parts_of(tree)):
        rows.extend(gone_through(part, path + (number,), in_look or tree[0] == "look"))
    return rows


def group_fault(name, in_look, ahead):
    """The fault of a group, ahead of which the groups of the names ahead stand."""
    if name != "" and name in ahead:
        return "twice"
    if len(ahead) >= MOST_GROUPS:
        return "groups"
    return "inner" if in_look else None


def leads_back(which, names):
    """Whether there is a group of this name or number."""
    return which in names if isinstance(which, str) else which <= len(names)


def own_fault(tree, in_look, ahead, names):
    """The fault of a tree among the others, its parts left aside; names are those of all groups."""
    word = tree[0]
    if word == "group":
        return group_fault(tree[1], in_look, ahead)
    if word == "back" and not leads_back(tree[1], names):
        return "back"
    if word == "many" and tree[3] is None and idle(tree[1]):
        return "empty"
    return None


def meaning_fault(tree):
    """The first fault of a tree whose form is right, its length left aside, or None."""
    names = group_names(tree)
    ahead = []
    for path, part, in_look in gone_through(tree, (), False):
        word = own_fault(part, in_look, ahead, names)
        if word is not None:
            return (word, path)
        if part[0] == "group":
            ahead.append(part[1])
    return None


def many_length(tree, inner):
    """How many rows the code of a many has, that of its part having inner."""
    least, most, mood = tree[2], tree[3], tree[4]
    rows = least * inner
    if most is None:
        rows += inner + 2
    else:
        rows += (most - least) * (inner + 1)
    return rows + 2 if mood == "once" else rows


def code_length(tree):
    """How many rows the code of a tree has; it is counted, not laid, as it might be very long."""
    word = tree[0]
    inner = sum([code_length(part) for part in parts_of(tree)])
    if word == "many":
        return many_length(tree, inner)
    if word == "choice":
        return inner + 2 * (len(tree[1]) - 1)
    if word in ("group", "once", "look"):
        return inner + 2
    if word in ("row", "flags"):
        return inner
    return 1


def fault(whatever):
    """The first fault as a tuple (word, path), or None where it is a tree without one."""
    found = form_fault(whatever, ())
    if found is None:
        found = meaning_fault(whatever)
    # One row more: behind the whole tree's code stands done.
    if found is None and code_length(whatever) + 1 > MOST_ROWS:
        found = ("long", ())
    return found


def check_tree(whatever):
    """Refuses what has a fault."""
    found = fault(whatever)
    if found is not None:
        raise Bad(found[0], found[1])
