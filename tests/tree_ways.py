"""What a tree takes, said of the tree itself without any code: for each tree the list of all its ends, in order.

An end is a tuple (place, spans, choices): spans a dict by the numbers of the groups.
"""

from tests.all_routes import edge_here
from tests.laid_codes import numbers_of_groups, twin
from tests.things import ORDER


class Meaning:
    """The meaning of a tree in a text."""

    def __init__(self, tree, text):
        self.tree = tree
        self.text = text
        self.numbers = numbers_of_groups(tree)

    def ways(self, at):
        """All ways at a place as tuples (end, spans, choices)."""
        numbers = range(1, len(self.numbers) + 1)
        ends = self.ends(self.tree, (), "", at, {})
        return [(end, tuple(spans.get(number) for number in numbers), choices) for end, spans, choices in ends]

    def ends(self, tree, path, flags, place, spans):
        return getattr(self, "of_" + tree[0])(tree, path, flags, place, spans)

    def behind(self, ends, tree, path, flags):
        """The ends of a tree that begins at each of some ends."""
        return [(end, spans, choices + more) for place, had, choices in ends
                for end, spans, more in self.ends(tree, path, flags, place, had)]

    def one_sign(self, right, place, spans):
        return [(place + 1, spans, ())] if place < len(self.text) and right(self.text[place]) else []

    def of_sign(self, tree, path, flags, place, spans):
        wanted = [tree[1], twin(tree[1])] if "a" in flags else [tree[1]]
        return self.one_sign(lambda sign: sign in wanted, place, spans)

    def of_any(self, tree, path, flags, place, spans):
        return self.one_sign(lambda sign: sign != "\n" or "l" in flags, place, spans)

    def of_set(self, tree, path, flags, place, spans):
        def within(sign):
            return any(ORDER.index(low) <= ORDER.index(sign) <= ORDER.index(high) for low, high in tree[1])

        def right(sign):
            return (within(sign) or "a" in flags and within(twin(sign))) != tree[2]

        return self.one_sign(right, place, spans)

    def of_row(self, tree, path, flags, place, spans):
        ends = [(place, spans, ())]
        for at, part in enumerate(tree[1]):
            ends = self.behind(ends, part, path + (at,), flags)
        return ends

    def of_choice(self, tree, path, flags, place, spans):
        ends, last = [], len(tree[1]) - 1
        for at, part in enumerate(tree[1]):
            ahead = (1,) * at + (() if at == last else (0,))
            ends += self.behind([(place, spans, ahead)], part, path + (at,), flags)
        return ends

    def of_many(self, tree, path, flags, place, spans):
        _, part, least, most, mood = tree
        ends = [(place, spans, ())]
        for _ in range(least):
            ends = self.behind(ends, part, path + (0,), flags)
        more = None if most is None else most - least
        ends = [last for end in ends for last in self.further(part, path + (0,), flags, end, more, mood)]
        return ends[:1] if mood == "once" else ends

    def further(self, part, path, flags, end, more, mood):
        """The ends of any number of further times, at most more."""
        if more == 0:
            return [end]
        place, spans, choices = end
        inner, outer = (1, 0) if mood == "few" else (0, 1)
        left = None if more is None else more - 1
        gone_on = []
        for once_more in self.behind([(place, spans, choices + (inner,))], part, path, flags):
            gone_on += self.further(part, path, flags, once_more, left, mood)
        stopped = [(place, spans, choices + (outer,))]
        return stopped + gone_on if mood == "few" else gone_on + stopped

    def of_group(self, tree, path, flags, place, spans):
        number = self.numbers[path][0]
        ends = self.ends(tree[2], path + (0,), flags, place, spans)
        return [(end, {**had, number: (place, end)}, choices) for end, had, choices in ends]

    def of_once(self, tree, path, flags, place, spans):
        return self.ends(tree[1], path + (0,), flags, place, spans)[:1]

    def of_look(self, tree, path, flags, place, spans):
        way, part = tree[1:]
        if "ahead" in way:
            found = bool(self.ends(part, path + (0,), flags, place, spans))
        else:
            found = any(end == place for begin in range(place + 1)
                        for end, _, _ in self.ends(part, path + (0,), flags, begin, spans))
        return [(place, spans, ())] if found != way.startswith("no") else []

    def of_flags(self, tree, path, flags, place, spans):
        flags = "".join(letter for letter in flags + tree[1] if letter not in tree[2])
        return self.ends(tree[3], path + (0,), flags, place, spans)

    def of_back(self, tree, path, flags, place, spans):
        which = tree[1]
        if isinstance(which, str):
            which, = [number for number, name in self.numbers.values() if name == which]
        if which not in spans:
            return []
        taken = self.text[slice(*spans[which])]
        here = self.text[place:place + len(taken)]
        fits = len(here) == len(taken) and all(
            sign == fellow or "a" in flags and sign == twin(fellow) for sign, fellow in zip(here, taken))
        return [(place + len(taken), spans, ())] if fits else []

    def of_edge(self, tree, path, flags, place, spans):
        return [(place, spans, ())] if edge_here(tree[1], self.text, place) else []
