"""Trees written as texts, as short as can be."""

from atomglass.reader import MARKS, SET_MARKS

TIMES = {(0, None): "*", (1, None): "+", (0, 1): "?"}
MOODS = {"most": "", "few": "~", "once": "!"}
LOOKS = {"ahead": ">", "noahead": ">~", "behind": "<", "nobehind": "<~"}
EDGES = {"start": "<", "end": ">", "rowstart": "^", "rowend": "$", "word": "/", "inner": "-"}


def escaped(sign, marks):
    """A sign, with a backslash where it is one of the marks; the line feed as a backslash and n."""
    if sign == "\n":
        return "\\n"
    return "\\" + sign if sign in marks else sign


def shown_pair(pair):
    """An entry of a set."""
    low, high = pair
    if low == high:
        return escaped(low, SET_MARKS)
    return escaped(low, SET_MARKS) + "-" + escaped(high, SET_MARKS)


def shown_set(pairs, others):
    """A set."""
    return "[" + ("^" if others else "") + "".join([shown_pair(pair) for pair in pairs]) + "]"


def shown_times(least, most):
    """How often, without the mood."""
    if (least, most) in TIMES:
        return TIMES[(least, most)]
    if most is None:
        return "{" + str(least) + ",}"
    if least == most:
        return "{" + str(least) + "}"
    return "{" + str(least) + "," + str(most) + "}"


def shown_head(tree):
    """What stands ahead of the part within a bracket."""
    word = tree[0]
    if word == "group":
        return tree[1] + ":"
    if word == "once":
        return "!"
    if word == "look":
        return LOOKS[tree[1]]
    if word == "flags":
        return "#" + tree[1] + ("-" + tree[2] if tree[2] else "") + ":"
    return ""


def shown_atom(tree):
    """A tree where an atom has to stand: what else would be read apart gets a bracket."""
    word = tree[0]
    if word == "sign":
        return escaped(tree[1], MARKS)
    if word == "any":
        return "."
    if word == "set":
        return shown_set(tree[1], tree[2])
    if word == "back":
        return "&" + str(tree[1]) + ";"
    if word == "edge":
        return "@" + EDGES[tree[1]]
    inner = tree if word in ("row", "choice", "many") else tree[-1]
    return "(" + shown_head(tree) + show_pattern(inner) + ")"


def shown_item(tree):
    """A tree where an item has to stand."""
    if tree[0] != "many":
        return shown_atom(tree)
    return shown_atom(tree[1]) + shown_times(tree[2], tree[3]) + MOODS[tree[4]]


def shown_option(tree):
    """A tree where an option has to stand."""
    if tree[0] == "row":
        return "".join([shown_item(part) for part in tree[1]])
    return shown_item(tree)


def show_pattern(tree):
    """The shortest text that writes the tree."""
    if tree[0] == "choice":
        return "|".join([shown_option(part) for part in tree[1]])
    return shown_option(tree)
