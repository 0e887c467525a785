"""Codes: the rows by which a tree is carried out.

The code of a part is laid once, as if nothing stood ahead of it, and put behind what is laid already by moving the
numbers of the rows that it leads to. So a part that is to be laid many times is gone through only once.
"""

from atomglass.sets import settled, signs_held, turned, with_twins
from atomglass.trees import group_names, parts_of

ALL_SIGNS = (("\n", "~"),)
LINE_FEED = (("\n", "\n"),)


class Around:
    """What holds where a tree stands: the two flags, the names of all groups, how many groups stand ahead of it."""

    def __init__(self, alike, lines, names, ahead):
        self.alike = alike
        self.lines = lines
        self.group_list = names
        self.ahead = ahead

    def flagged(self, on, off):
        """What holds within flags that stand here."""
        alike = "a" in on or (self.alike and "a" not in off)
        lines = "l" in on or (self.lines and "l" not in off)
        return Around(alike, lines, self.group_list, self.ahead)

    def farther(self, many):
        """What holds where so many more groups stand ahead."""
        return Around(self.alike, self.lines, self.group_list, self.ahead + many)


def moved_row(row, by):
    """A row as it stands where so many more rows stand ahead of all that it leads to."""
    word = row[0]
    if word == "fork":
        return (word, row[1] + by, row[2] + by)
    if word in ("go", "once"):
        return (word, row[1] + by)
    if word == "look":
        return (word, row[1], row[2] + by)
    return row


def moved(rows, by):
    """The rows as they stand where so many more rows stand ahead of them."""
    return [moved_row(row, by) for row in rows]


def held_by_sign(sign, around):
    """The rows of signs that a sign takes."""
    rows = ((sign, sign),)
    return with_twins(rows) if around.alike else rows


def held_by_set(pairs, others, around):
    """The rows of signs that a set takes."""
    rows = with_twins(pairs) if around.alike else settled(pairs)
    return turned(rows) if others else rows


def group_number(which, names):
    """The number of the group to which a back leads."""
    return names.index(which) + 1 if isinstance(which, str) else which


def laid_leaf(tree, around):
    """The one row of a tree without parts."""
    word = tree[0]
    if word == "sign":
        return ("read", held_by_sign(tree[1], around))
    if word == "any":
        return ("read", ALL_SIGNS if around.lines else turned(LINE_FEED))
    if word == "set":
        return ("read", held_by_set(tree[1], tree[2], around))
    if word == "back":
        return (word, group_number(tree[1], around.group_list), around.alike)
    return (word, tree[1])


def laid_row(codes):
    """The codes of parts, one behind another."""
    rows = []
    for code in codes:
        rows.extend(moved(code, len(rows)))
    return rows


def laid_choice(codes):
    """The codes of options; each but the last one has a fork ahead of it and a go behind it."""
    end = sum([len(code) for code in codes]) + 2 * (len(codes) - 1)
    rows = []
    for code in codes[:-1]:
        begin = len(rows) + 1
        rows.append(("fork", begin, begin + len(code) + 1))
        rows.extend(moved(code, begin))
        rows.append(("go", end))
    return rows + moved(codes[-1], len(rows))


def forked(inner, end, mood):
    """The fork of a many, ahead of its part or behind the whole many."""
    return ("fork", end, inner) if mood == "few" else ("fork", inner, end)


def laid_many(code, least, most, mood):
    """The code of a many whose part has this code, without what the mood "once" puts around it."""
    rows = laid_row([code] * least)
    if most is None:
        fork = len(rows)
        rows.append(forked(fork + 1, fork + len(code) + 2, mood))
        rows.extend(moved(code, fork + 1))
        rows.append(("go", fork))
        return rows
    end = len(rows) + (most - least) * (len(code) + 1)
    while len(rows) < end:
        begin = len(rows) + 1
        rows.append(forked(begin, end, mood))
        rows.extend(moved(code, begin))
    return rows


def laid_group(code, number):
    """The code of a group whose part has this code."""
    return [("open", number)] + moved(code, 1) + [("close", number)]


def kept_behind(head, code):
    """A code with kept behind it, and ahead of it a row of this head that leads behind the kept."""
    return [head + (len(code) + 2,)] + moved(code, 1) + [("kept",)]


def laid_parts(parts, around):
    """The codes of parts that stand side by side, each with the right numbers for its groups."""
    codes = []
    for part in parts:
        codes.append(laid(part, around))
        around = around.farther(len(group_names(part)))
    return codes


def laid(tree, around):
    """The code of a tree, as if nothing stood ahead of it."""
    word = tree[0]
    if word == "flags":
        return laid(tree[3], around.flagged(tree[1], tree[2]))
    if word == "group":
        return laid_group(laid(tree[2], around.farther(1)), around.ahead + 1)
    codes = laid_parts(parts_of(tree), around)
    if word == "row":
        return laid_row(codes)
    if word == "choice":
        return laid_choice(codes)
    if word == "many":
        rows = laid_many(codes[0], tree[2], tree[3], tree[4])
        return kept_behind(("once",), rows) if tree[4] == "once" else rows
    if word == "once":
        return kept_behind(("once",), codes[0])
    if word == "look":
        return kept_behind(("look", tree[1]), codes[0])
    return [laid_leaf(tree, around)]


def code_of(tree):
    """The rows of the code of a tree without a fault, in a new list."""
    return laid(tree, Around(False, False, group_names(tree), 0)) + [("done",)]


def reads_of(rows):
    """For each row of a code the text of all signs with which a read goes on; "" for rows of other words."""
    return [signs_held(row[1]) if row[0] == "read" else "" for row in rows]
