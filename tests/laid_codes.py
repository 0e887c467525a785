"""Promises 19 and 20 said another way: rows are laid one by one behind each other, with marks for the rows they lead to.

A mark is given the number of its row when that row is laid; only then are all marks read off.
"""

from tests.some_trees import parts
from tests.things import GREAT, ORDER, SMALL


class Mark:
    """A row to which others lead, its number told later."""

    row = None


def twin(sign):
    if sign in SMALL:
        return GREAT[SMALL.index(sign)]
    return SMALL[GREAT.index(sign)] if sign in GREAT else sign


def pairs_of(signs):
    """The settled pairs that hold just these signs."""
    pairs = []
    for sign in ORDER:
        if sign not in signs:
            continue
        if pairs and ORDER.index(pairs[-1][1]) + 1 == ORDER.index(sign):
            pairs[-1] = (pairs[-1][0], sign)
        else:
            pairs.append((sign, sign))
    return tuple(pairs)


def numbers_of_groups(tree, path=(), numbers=None):
    """The number of each group by its path."""
    numbers = {} if numbers is None else numbers
    if tree[0] == "group":
        numbers[path] = (len(numbers) + 1, tree[1])
    for at, part in enumerate(parts(tree)):
        numbers_of_groups(part, path + (at,), numbers)
    return numbers


class Laying:
    """One code that is being laid."""

    def __init__(self, tree):
        self.numbers = numbers_of_groups(tree)
        self.rows = []
        self.lay(tree, (), "")
        self.rows.append(("done",))

    def told(self):
        return [tuple(thing.row if isinstance(thing, Mark) else thing for thing in row) for row in self.rows]

    def put(self, *row):
        self.rows.append(row)

    def here(self, mark):
        mark.row = len(self.rows)

    def lay(self, tree, path, flags):
        getattr(self, "lay_" + tree[0])(tree, path, flags)

    def read(self, signs):
        self.put("read", pairs_of(signs))

    def lay_sign(self, tree, path, flags):
        self.read([tree[1], twin(tree[1]) if "a" in flags else tree[1]])

    def lay_any(self, tree, path, flags):
        self.read(ORDER if "l" in flags else ORDER.replace("\n", ""))

    def lay_set(self, tree, path, flags):
        held = [sign for sign in ORDER for low, high in tree[1]
                if ORDER.index(low) <= ORDER.index(sign) <= ORDER.index(high)]
        if "a" in flags:
            held += [twin(sign) for sign in held]
        self.read([sign for sign in ORDER if (sign in held) != tree[2]])

    def lay_row(self, tree, path, flags):
        for at, part in enumerate(tree[1]):
            self.lay(part, path + (at,), flags)

    def lay_choice(self, tree, path, flags):
        behind = Mark()
        last = len(tree[1]) - 1
        for at, part in enumerate(tree[1]):
            if at < last:
                inner, other = Mark(), Mark()
                self.put("fork", inner, other)
                self.here(inner)
            self.lay(part, path + (at,), flags)
            if at < last:
                self.put("go", behind)
                self.here(other)
        self.here(behind)

    def lay_many(self, tree, path, flags):
        _, part, least, most, mood = tree
        end, behind = Mark(), Mark()
        if mood == "once":
            self.put("once", behind)
        for _ in range(least):
            self.lay(part, path + (0,), flags)
        for _ in range(1 if most is None else most - least):
            fork, inner = Mark(), Mark()
            self.here(fork)
            self.put("fork", *((end, inner) if mood == "few" else (inner, end)))
            self.here(inner)
            self.lay(part, path + (0,), flags)
            if most is None:
                self.put("go", fork)
        self.here(end)
        if mood == "once":
            self.put("kept")
        self.here(behind)

    def lay_group(self, tree, path, flags):
        number = self.numbers[path][0]
        self.put("open", number)
        self.lay(tree[2], path + (0,), flags)
        self.put("close", number)

    def lay_kept(self, head, part, path, flags):
        behind = Mark()
        self.put(*head, behind)
        self.lay(part, path + (0,), flags)
        self.put("kept")
        self.here(behind)

    def lay_once(self, tree, path, flags):
        self.lay_kept(("once",), tree[1], path, flags)

    def lay_look(self, tree, path, flags):
        self.lay_kept(("look", tree[1]), tree[2], path, flags)

    def lay_flags(self, tree, path, flags):
        kept = [letter for letter in flags + tree[1] if letter not in tree[2]]
        self.lay(tree[3], path + (0,), "".join(kept))

    def lay_back(self, tree, path, flags):
        which = tree[1]
        if isinstance(which, str):
            which, = [number for number, name in self.numbers.values() if name == which]
        self.put("back", which, "a" in flags)

    def lay_edge(self, tree, path, flags):
        self.put("edge", tree[1])


def laid_code(tree):
    """The code of a tree without fault that isn't too long."""
    return Laying(tree).told()
